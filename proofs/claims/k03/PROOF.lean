import PyProof.Rows.All
import Wide.All
import OpenK.AllK
import Wide.FinOn
import HandS.ForMost
import HandS.Defaults
import HandS.Flow
import HandS.Wide
import KE.KExcInit
import KE.KExcIs
import KE.KIsAll
import HandS.Exc
import HandS.ExcInit
import HandS.ExcValue
import HandS.IsInst
import HandS.Set
import HandS.Strs
import HandS.SetIn
import HandS.TupSets
import HandS.SortInts
import PyProof.Rows.SortShellAny
import PyProof.AutoSeq1
import HandS.DictComp
import HandS.ExcOwn
import HandS.Walk
import HandS.Style
import HandS.Words
import HandS.WideBits
import HandS.Text
import KE.OsArith
import KE.BitLaws
import KE.DataEq
import HandS.TupAny
import HandS.More
import HandS.Conv
import KE.KStateDown
import HandS.Head0
import HandS.Head1
import HandS.Head2
import HandS.HeadEnd
import HandS.HeadHook1
import HandS.HeadHook2
import HandS.HeadHook3
import HandS.HeadHook4
import PySem.Challenge.RW_middlesay_k03_tables_of_truth
set_option Elab.async false
set_option linter.all false
set_option maxRecDepth 100000
set_option maxHeartbeats 4000000
/-! Classes of errors over five built-in ones, each with an __init__ that stores its one parameter: made as values, their field read, asked by isinstance. KeyError makes its instances by LookupError's __new__. -/
namespace XE
open PySem PySem.W PySem.Calls PyProof.Rows
abbrev mroK : List Value := [.type "KeyError", .type "LookupError", .type "Exception", .type "BaseException", .type "object"]
theorem slot_key : Slot "KeyError" "__setattr__" "object.__setattr__" := .of (owner := "object")
  (n := "__setattr__")
  (by
    rw [typeLookup_type, builtinLookup_eq_fast]
    kernel_rfl)
  (by decide +kernel) (by decide +kernel) (by decide +kernel)
  (by
    first
      | exact .inl (by decide +kernel)
      | exact .inr (by decide +kernel))
  (by
    rw [isSubtype_type]
    kernel_rfl)
theorem store_key : StoreFacts "KeyError" mroK "object.__setattr__" "object" :=
  { mro := by kernel_rfl
    slot := slot_key
    entry := PySem.F.store_object.entry
    kind := PySem.F.store_object.kind
    split := PySem.F.store_object.split
    hasOwner := by decide +kernel
    args := PySem.F.store_object.args
    passes := fun self => by kernel_rfl }
section
variable {prog : Program} {w : World} {A : Around} {E : Value → Shared → Prop} {R : Result → Shared → Prop} {h : Heap} {g : Array GenState} {d : Drawn} {t : Nat} {os : OsState}
variable {nm q : Str} {C N : Addr} {bs bm : List Value} {hdct : Bool} {sn : List Str} {sub : List Value} {ab : Bool} {col : Option Bool} {dd : Option Addr} {k0 k1 k2 k3 k5 : Option Value}
/-- what a list of classes says of a KeyError -/
structure Keyed (bm : List Value) : Prop where
  own : bm.contains (.type "LookupError") = true
  noA : bm.contains (.type "AttributeError") = false
  noN : bm.contains (.type "NameError") = false
theorem keyed_of (hT : ∀ X : String, bm.contains (.type X) = mroK.contains (.type X)) : Keyed bm :=
  ⟨(hT _).trans (by decide +kernel), (hT _).trans (by decide +kernel), (hT _).trans (by decide +kernel)⟩
theorem behind {X : String} {b : Bool} (e : bm.contains (.type X) = b) : (Value.ref C :: bm).contains (.type X) = b := by
  rw [List.contains_cons, e]
  rfl
theorem key_check {M : Model} {rest : List Value} {Q : Unit → Shared → Prop} (Y : Keyed bm) (cl : h.get? C = some (excClassObj nm q C N bs bm hdct sn sub ab col dd k0 k1 k2 k3 k5 "LookupError.__new__")) (yes : Q () ⟨h, g, d, t, os⟩) :
    wpAny M A (checkBuiltinCall "LookupError.__new__" ⟨.ref C :: rest, []⟩) Q E ⟨h, g, d, t, os⟩ := by
  have L := PySem.F.excBase_LookupError
  have in1 := behind (C := C) Y.own
  have star := L.noStar
  simp only [checkBuiltinCall, L.newKind, L.newSplit, L.newRow]
  repeat (first
    | refine wpAny_loadPart_at cl ?_
    | (refine wpAny_isSubtype_exc cl ?_; rw [in1])
    | refine wpAny_staticBase_exc cl ?_
    | refine wpAny_madeBy_exc cl ?_
    | simp only [bne_self_eq_false, Bool.false_eq_true, if_false]
    | wp_step)
  exact yes
theorem key_new {rest : List Value} (Y : Keyed bm) (cl : h.get? C = some (excClassObj nm q C N bs bm hdct sn sub ab col dd k0 k1 k2 k3 k5 "LookupError.__new__"))
    (yes : R (.ok (.ret (.ref (h.objs.size + 1)))) ⟨(h.push (kdv_tup rest)).push (PySem.PX.excO C h.objs.size), g, d, t, os⟩) (few : rest.length ≤ sizeLine) :
    codeAny (model prog w) A (.builtin "LookupError.__new__" ⟨.ref C :: rest, []⟩) R ⟨h, g, d, t, os⟩ := by
  have L := PySem.F.excBase_LookupError
  have hends := L.ends
  have in1 := behind (C := C) Y.own
  have in2 := behind (C := C) Y.noA
  have in3 := behind (C := C) Y.noN
  refine codeAny_builtinAt L.entry ?_
  unfold Builtin.«BaseException.__new__»
  refine PySem.wpAt_bind ?_
  show PySem.wpAt _ _ _ (stack >>= _) _ _ _
  refine PySem.wpAt_bind (PySem.wpAt_stack fun p below => PySem.wpAt_of_wpAny ?_)
  wp_walk
  refine PySem.wpAt_of_wpAny ?_
  rw [L.owner]
  repeat (first
    | with_reducible refine wpAny_madeHere_exc L.canon cl ?_
    | with_reducible refine wpAny_loadPart_at cl ?_
    | (with_reducible refine wpAny_isSubtype_exc cl ?_
       first
        | rw [in1]
        | rw [in2]
        | rw [in3])
    | wp_step)
  show R _ _
  rw [Heap.size_push]
  exact yes
theorem key_type {rest : List Value} {fI : Addr} {Q : Fin → Shared → Prop} (Y : Keyed bm) (cl : h.get? C = some (excClassObj nm q C N bs bm hdct sn sub ab col dd k0 k1 k2 k3 k5 "LookupError.__new__"))
    (ini : Looks (model prog w) h (typeLookup (.ref C) "__init__") (some (.ref fI))) (bnd : ∀ self, Looks (model prog w) h (bindSpecial (.ref fI) self) (.ref fI, [self])) (few : rest.length ≤ sizeLine)
    (run : codeAny (model prog w) A (.call (.ref fI) ⟨.ref (h.objs.size + 1) :: rest, []⟩)
      (fun r s' => match r with | .ok (.ret v) => v = .none ∧ Q (.done (.ret (.ref (h.objs.size + 1)))) s' | .ok _ => False | .error e => E e s') ⟨(h.push (kdv_tup rest)).push (PySem.PX.excO C h.objs.size), g, d, t, os⟩) :
    wpAny (model prog w) A (Builtin.«type.__call__» ⟨.ref C :: rest, []⟩) Q E ⟨h, g, d, t, os⟩ := by
  repeat (first
    | with_reducible refine wpAny_loadPart_at cl ?_
    | with_reducible refine wpAny_madeBy_exc cl ?_
    | wp_step)
  refine codeAny_call_builtin_code (Code.quiet_builtin _ PySem.F.excBase_LookupError.quiet) (key_check Y cl ?_)
  refine key_new Y cl ?_ few
  show wpAny _ _ _ _ _ _
  have k : ∀ b o, h.get? b = some o → ((h.push (kdv_tup rest)).push (PySem.PX.excO C h.objs.size)).get? b = some o := fun b o e =>
    Heap.get?_push_of_some _ (Heap.get?_push_of_some _ e)
  have cl1 := k _ _ cl
  have at1 : ((h.push (kdv_tup rest)).push (PySem.PX.excO C h.objs.size)).get? (h.objs.size + 1) = some (PySem.PX.excO C h.objs.size) := by
    heap_get
  have self1 : (Value.ref C :: bm).contains (.ref C) = true := by simp
  have i1 := ini.keeps k
  have b1 := (bnd (.ref (h.objs.size + 1))).keeps k
  unfold isInstance
  repeat (first
    | with_reducible refine wpAny_loadPart_at at1 ?_
    | (with_reducible refine wpAny_isSubtype_exc cl1 ?_; rw [self1])
    | wp_step)
  show wpAny _ _ (typeLookup (.ref C) _) _ _ _
  refine i1.at (wpAny_holding (wpAny_bind (b1.at ?_)))
  refine wpAny_bind (wpAny_call (codeAny_mono run fun r s' z => ?_))
  rcases r with e | (v | _ | _ | _) <;>
    first
      | exact z
      | exact z.elim
      | skip
  obtain ⟨rfl, z2⟩ := z
  first
    | exact wpAny_pure (wpAny_pure z2)
    | (wp_walk
       exact z2)
theorem key_call {rest : List Value} {fI : Addr} (Y : Keyed bm) (cl : h.get? C = some (excClassObj nm q C N bs bm hdct sn sub ab col dd k0 k1 k2 k3 k5 "LookupError.__new__"))
    (ini : Looks (model prog w) h (typeLookup (.ref C) "__init__") (some (.ref fI))) (bnd : ∀ self, Looks (model prog w) h (bindSpecial (.ref fI) self) (.ref fI, [self])) (few : rest.length ≤ sizeLine)
    (run : codeAny (model prog w) (A.under (.builtin "type.__call__" ⟨.ref C :: rest, []⟩)) (.call (.ref fI) ⟨.ref (h.objs.size + 1) :: rest, []⟩) (InitBack (h.objs.size + 1) R) ⟨(h.push (kdv_tup rest)).push (PySem.PX.excO C h.objs.size), g, d, t, os⟩) :
    codeAny (model prog w) A (.call (.ref C) ⟨rest, []⟩) R ⟨h, g, d, t, os⟩ := by
  have a1 := tc_lookup
  have a2 := tc_bind (.ref C)
  have a3 : (⟨h, g, d, t, os⟩ : Shared).TypeIs (.ref C) "type" := ⟨_, cl, rfl⟩
  refine codeAny_of_tree ?_
  show wpAny _ _ (callAny (.ref C) _) _ _ _
  repeat (any_goals (first
    | assumption
    | with_reducible refine wpAny_loadPart_at cl ?_
    | wp_step))
  refine ⟨rfl, ?_⟩
  have quiet : Code.quiet (.builtin "type.__call__" ⟨.ref C :: rest, []⟩) = true := Code.quiet_builtin _ (by decide +kernel)
  refine codeAny_call_builtin_at quiet entry_typeCall (wpAny_check_type_call_sub cl (key_type Y cl ini bnd few ?_))
  refine codeAny_mono run fun r s' z => ?_
  rcases r with e | (v | _ | _ | _) <;> exact z
end
end XE

set_option maxRecDepth 100000
set_option maxHeartbeats 4000000
namespace XE
open PySem PySem.W PySem.Calls PyProof.Rows
/-- the names of the fields -/
inductive Fl where
  | row | why | name | label | step | spot | most
def Fl.s : Fl → Str
  | .row => "row"
  | .why => "why"
  | .name => "name"
  | .label => "label"
  | .step => "step"
  | .spot => "spot"
  | .most => "most"
/-- the five built-in classes: what stands behind a class over it, what makes its instances -/
inductive Five : List Value → String → Prop where
  | val : Five [.type "ValueError", .type "Exception", .type "BaseException", .type "object"] "ValueError.__new__"
  | key : Five mroK "LookupError.__new__"
  | ind : Five [.type "IndexError", .type "LookupError", .type "Exception", .type "BaseException", .type "object"] "IndexError.__new__"
  | look : Five [.type "LookupError", .type "Exception", .type "BaseException", .type "object"] "LookupError.__new__"
  | over : Five [.type "OverflowError", .type "ArithmeticError", .type "Exception", .type "BaseException", .type "object"] "OverflowError.__new__"
theorem Five.store {bmB : List Value} {newId : String} (F : Five bmB newId) : ∃ B, StoreFacts B bmB "object.__setattr__" "object" := by
  cases F
  · exact ⟨_, PySem.F.store_ValueError⟩
  · exact ⟨_, store_key⟩
  · exact ⟨_, PySem.F.store_IndexError⟩
  · exact ⟨_, PySem.F.store_LookupError⟩
  · exact ⟨_, PySem.F.store_OverflowError⟩
def iA (f : Fl) (p1 p2 : Pos) : Arguments := { posonlyargs := [], args := [{ arg := "self", annotation := none, pos := p1 }, { arg := f.s, annotation := none, pos := p2 }], vararg := none, kwonlyargs := [], kw_defaults := [], kwarg := none, defaults := [] }
def iB (f : Fl) (q1 q2 q3 q4 : Pos) : List Stmt := [.Assign [.Attribute (.Name "self" q1) f.s q2] (.Name f.s q3) q4]
def iS (f : Fl) : Scope := { kind := .function, names := [(PySem.Str.ofString "self", .local), (f.s, .local)], isGenerator := false, isCoroutine := false, more := [] }
/-- what the written part says of such a class, at C, and of its __init__, at fI -/
structure Err (K : Frag) (C fI : Addr) (f : Fl) (bmB : List Value) (newId : String) : Prop where
  five : Five bmB newId
  ini : excInitIn K C bmB newId = true
  ovr : excOver K C bmB = true
  iC : findIn K (.ref C) "__init__" = some (some (.ref fI))
  isF : isFn K (.ref fI) = true
  sa : findIn K (.ref C) "__setattr__" = some (some (.builtin "object.__setattr__"))
  tk : takerIn K C f.s = some none
  hd : hasDictIn K C = true
  noF : findIn K (.ref C) f.s = some none
  ga : findIn K (.ref C) "__getattribute__" = some (some (.builtin "BaseException.__getattribute__"))
  gg : findIn K (.ref C) "__getattr__" = some none
  exC : subIn K (.ref C) (.type "BaseException") = some true
  kC : keepIn K (.ref C) = true
  cl : findIn K (.ref C) "__class__" = some (some (.builtin "object.__class__"))
  sp : specialIn K (.builtin "object.__class__") "__get__" = some (some (.builtin "getset_descriptor.__get__"))
  tc : takesIn K (.builtin "object.__class__") = some true
  mo : mroIn K C (.type "object") = some true
  fn : ∃ (qual : Str) (oc : Value) (od : Option Addr) (kv doc pm : Value) (an : Option Addr) (cdv ct : Value) (osl : Array (Option Value)) (p1 p2 q1 q2 q3 q4 : Pos),
    K.lookup fI = some ⟨oc, od, .func (fnOf "__init__" qual (iA f p1 p2) (iB f q1 q2 q3 q4) (iS f) .none kv doc pm an cdv ct), osl⟩ ∧ codeIn K cdv qual = true
section
variable {prog : Program} {w : World} {A : Around} {E : Value → Shared → Prop} {R : Result → Shared → Prop} {s : Shared} {K : Frag} {C fI : Addr} {bmB : List Value} {newId : String} {f : Fl}
theorem exc_store {x t : Addr} {name : Str} {tk : Tok} {v : Value} (F : Five bmB newId) (X : K.In s.heap) (hx : s.heap.get? x = some (excObj C t none .none)) (hp : excOver K C bmB = true) (ht : takerIn K C name = some none) (hh : hasDictIn K C = true)
    (hq : ∀ h' tk' dx, (∀ b o, b ≠ x → s.heap.get? b = some o → h'.get? b = some o) → s.heap.objs.size ≤ dx → dx ≠ x → h'.get? x = some (excObj C t (some dx) .none) → h'.Ns1 dx (fun y => if y = name then some v else none) →
      R (.ok (.ret .none)) { s with heap := h', toks := tk' }) :
    codeAny (model prog w) A (.call (.builtin "object.__setattr__") ⟨[.ref x, .str name tk, v], []⟩) R s := by
  obtain ⟨B, SF⟩ := F.store
  have old := Heap.lt_size hx
  have nx : s.heap.objs.size ≠ x := Nat.ne_of_gt old
  refine osa_openX (od := none) SF X ⟨hx, rfl, rfl, trivial⟩ hp ht fun b => ?_
  obtain ⟨cd, hc, hd'⟩ := any_some hh
  refine wpAny_bind (wpAny_pure (wpAny_bind (instanceDict_exc hx (looks_clsIn X hc) hd' ?_)))
  show wpAny _ _ (Builtin.ObjectAttr.storeInDict s.heap.objs.size (.str name tk) name v) _ _ _
  obtain ⟨hp0, g, d, t0, os⟩ := s
  have hx1 : (hp0.push (dictOf [] 0)).get? x = some (excObj C t none .none) := Heap.get?_push_of_some _ hx
  refine PySem.HandSPX.store_in_new ?_ fun h' tk' hn' hs => ?_
  · refine ⟨dictOf [] 0, #[], _, ?_, rfl, fun e he => absurd he (by simp), fun _ => rfl⟩
    rw [Heap.get?_update_ne _ _ _ _ nx]
    exact Heap.get?_push_at rfl rfl
  · refine hq h' tk' hp0.objs.size (fun b o hb ho => ?_) (Nat.le_refl _) nx ?_ hn'
    · rw [hs.2 b (Nat.ne_of_lt (Heap.lt_size ho)), Heap.get?_update_ne _ _ _ _ hb]
      exact Heap.get?_push_of_some _ ho
    · rw [hs.2 x nx.symm]
      exact Heap.get?_update_self _ hx1 rfl
theorem ldC {M : Model} {s : Shared} {name : Str} {scope : Scope} {L a : Addr} {cd : Value} {m : Str → Option Value} {x : Str} {pos : Pos} {v : Value} {Q : Value → Shared → Prop} {A : Around} {E : Value → Shared → Prop} (hn : s.heap.Ns L m) (hv : m x = some v) (h : Q v s)
    (hk : scope.kind = .function := by rfl) (hl : (envOfC name scope L a cd).kindOf x = some .local := by rfl) (hd : (x == ("__debug__" : Str)) = false := by decide) :
    wpAny M A (eval (.Name x pos) (envOfC name scope L a cd)) Q E s := wpAny_Name (wpAny_loadName_local hk hl hn hv h) hd
/-- what __init__ leaves of a fresh exception at x -/
structure InitEnd (h h' : Heap) (x C dx t1 : Addr) (n : Str) (v : Value) : Prop where
  keep : ∀ b o, b ≠ x → h.get? b = some o → h'.get? b = some o
  obj : h'.get? x = some (excObj C t1 (some dx) .none)
  dbig : h.objs.size ≤ dx
  dne : dx ≠ x
  ns : h'.Ns1 dx (fun y => if y = n then some v else none)
/-- a made one -/
structure OwnMade (h h' : Heap) (e C d : Addr) (n : Str) (v : Value) : Prop where
  keep : ∀ b o, h.get? b = some o → h'.get? b = some o
  new : h.objs.size ≤ e
  obj : ∃ t, h'.get? e = some (excObj C t (some d) .none)
  dbig : h.objs.size ≤ d
  dne : d ≠ e
  ns : h'.Ns1 d (fun y => if y = n then some v else none)
theorem err_init (T : Err K C fI f bmB newId) {x t0 : Addr} {v : Value} (X : K.In s.heap) (hlim : s.heap.NoLimit) (hx : s.heap.get? x = some (excObj C t0 none .none)) (hroom : A.depth < recursionLimit)
    (hq : ∀ h' tk dx, InitEnd s.heap h' x C dx t0 f.s v → R (.ok (.ret .none)) { s with heap := h', toks := tk }) :
    codeAny (model prog w) A (.call (.ref fI) ⟨[.ref x, v], []⟩) R s := by
  obtain ⟨qual, oc, od, kv, doc, pm, an, cdv, ct, osl, p1, p2, q1, q2, q3, q4, ho, hcd⟩ := T.fn
  refine Att.call_fn (binds := [("self", .ref x), (f.s, v)]) X hlim ho hcd hroom (BindsTo.of_eq (by cases f <;> rfl)) (by cases f <;> rfl) (fun s₁ IC => ?_) rfl rfl rfl
  obtain ⟨h₁, tk₁, rfl⟩ := IC.toInCall.same
  have k : ∀ b o, s.heap.get? b = some o → h₁.get? b = some o := IC.toInCall.keep
  have hn := IC.toInCall.ns
  have hxL : s.heap.objs.size ≠ x := Nat.ne_of_gt (Heap.lt_size hx)
  have X₁ : K.In h₁ := X.keeps k
  have hx₁ := k _ _ hx
  show wpAny _ _ (execs _ _) _ _ _
  refine wpAny_execs_cons (plainObj_wpAny_Assign_Attribute ?_ (by cases f <;> rfl))
  refine ldC (v := v) hn (by cases f <;> rfl) (ldC (v := .ref x) hn (by cases f <;> rfl) ?_ rfl (by cases f <;> rfl)) rfl (by cases f <;> rfl) (by cases f <;> decide)
  refine set_plain X₁ (ox := excObj C t0 none .none) (od := none) ⟨hx₁, rfl, rfl, trivial⟩ T.sa ?_
  refine exc_store T.five X₁ hx₁ T.ovr T.tk T.hd (fun h₃ tk₃ dx k₃ dn dne hx₃ hn₃ => ?_)
  show wpAny _ _ (execs _ _) _ _ _
  have z : s.heap.objs.size < h₁.objs.size := hn.lt
  exact wpAny_execs_nil (hq h₃ tk₃ dx ⟨fun b o hb e => k₃ b o hb (k b o e), hx₃, Nat.le_of_lt (Nat.lt_of_lt_of_le z dn), dne, hn₃⟩)
theorem one_size (v : Value) : [v].length ≤ sizeLine := by
  rw [sizeLine_eq]
  exact (by decide : 1 ≤ 16777216)
theorem five_call {nm q : Str} {N : Addr} {bs bm : List Value} {hdct : Bool} {sn : List Str} {sub : List Value} {ab : Bool} {col : Option Bool} {dd : Option Addr} {k0 k1 k2 k3 k5 : Option Value} {h : Heap} {g : Array GenState} {d : Drawn} {t : Nat} {os : OsState} {rest : List Value}
    (F : Five bmB newId) (hT : ∀ X : String, bm.contains (.type X) = bmB.contains (.type X)) (hC : h.get? C = some (excClassObj nm q C N bs bm hdct sn sub ab col dd k0 k1 k2 k3 k5 newId))
    (hi : Looks (model prog w) h (typeLookup (.ref C) "__init__") (some (.ref fI))) (hb : ∀ self, Looks (model prog w) h (bindSpecial (.ref fI) self) (.ref fI, [self])) (few : rest.length ≤ sizeLine)
    (run : codeAny (model prog w) (A.under (.builtin "type.__call__" ⟨.ref C :: rest, []⟩)) (.call (.ref fI) ⟨.ref (h.objs.size + 1) :: rest, []⟩) (InitBack (h.objs.size + 1) R) ⟨(h.push (kdv_tup rest)).push (PySem.PX.excO C h.objs.size), g, d, t, os⟩) :
    codeAny (model prog w) A (.call (.ref C) ⟨rest, []⟩) R ⟨h, g, d, t, os⟩ := by
  cases F
  · exact PySem.PX.call_own PySem.F.excBase_ValueError hT hC hi hb few run
  · exact key_call (keyed_of hT) hC hi hb few run
  · exact PySem.PX.call_own PySem.F.excBase_IndexError hT hC hi hb few run
  · exact PySem.PX.call_own PySem.F.excBase_LookupError hT hC hi hb few run
  · exact PySem.PX.call_own PySem.F.excBase_OverflowError hT hC hi hb few run
theorem err_made (T : Err K C fI f bmB newId) {v : Value} (X : K.In s.heap) (hlim : s.heap.NoLimit) (hroom : A.depth + 1 < recursionLimit)
    (hq : ∀ h' tk e d, OwnMade s.heap h' e C d f.s v → R (.ok (.ret (.ref e))) { s with heap := h', toks := tk }) :
    codeAny (model prog w) A (.call (.ref C) ⟨[v], []⟩) R s := by
  obtain ⟨nm, N, qn, bs, bm, hdct, sn, sub, ab, col, dd, k0, k1, k2, k3, k5, hC, hT⟩ := excInit_of X T.ini
  obtain ⟨oI, hoI, hcI⟩ : ∃ oI, s.heap.get? fI = some oI ∧ oI.cls = .type "function" := by
    obtain ⟨o, ho, hc⟩ := Option.map_eq_some_iff.mp (show (K.lookup fI).map (·.cls) = some (.type "function") from beq_iff_eq.mp T.isF)
    exact ⟨o, X _ _ ho, hc⟩
  obtain ⟨hp, g, dr, tk, os⟩ := s
  have k : ∀ b o, hp.get? b = some o → ((hp.push (kdv_tup [v])).push (PySem.PX.excO C hp.objs.size)).get? b = some o := fun b o e => Heap.get?_push_of_some _ (Heap.get?_push_of_some _ e)
  have hget : ((hp.push (kdv_tup [v])).push (PySem.PX.excO C hp.objs.size)).get? (hp.objs.size + 1) = some (PySem.PX.excO C hp.objs.size) := by heap_get
  refine five_call T.five hT hC (looks_findIn X T.iC) (fun self => exc_bind hoI hcI self) (one_size v) ?_
  refine err_init (s := ⟨(hp.push (kdv_tup [v])).push (PySem.PX.excO C hp.objs.size), g, dr, tk, os⟩) T (X.keeps k) (hlim.keeps k) hget ?_ fun h' tk' dx ⟨k', hx, dn, dne, hns⟩ => ?_
  · show A.depth + 1 < recursionLimit
    exact hroom
  · have old : ∀ b o, hp.get? b = some o → h'.get? b = some o := fun b o e => k' b o (Nat.ne_of_lt (Nat.lt_succ_of_lt (Heap.lt_size e))) (k b o e)
    have z : hp.objs.size + 1 + 1 ≤ dx := by
      first
        | (simpa only [Heap.size_push] using dn)
        | exact dn
        | (have q := dn; rw [Heap.size_push, Heap.size_push] at q; exact q)
    exact ⟨rfl, hq h' tk' (hp.objs.size + 1) dx ⟨old, Nat.le_succ _, ⟨_, hx⟩, Nat.le_trans (Nat.le_trans (Nat.le_succ _) (Nat.le_succ _)) z, dne, hns⟩⟩
end
end XE

set_option maxRecDepth 100000
set_option maxHeartbeats 4000000
namespace L2
open PySem PySem.Spec PyProof.Rows
/-- C(e), C such a class: a new exception at a, its own dict at d -/
def tErr (C : Addr) (f : Str) (ta : TA) : TE := fun σ H Q => ta σ H fun vs H1 => ∃ v, vs = [v] ∧ ∀ a d, H1 a = none → H1 d = none → d ≠ a → Q (.ref a) (upd (upd H1 d (exd d [(f, v)])) a (exo a C (some d)))
theorem pe_err {X : Cx} {C fI : Addr} {f : XE.Fl} {bmB : List Value} {newId : String} {k : Nat} {x : Str} {a : Expr} {ta : TA} {p pos : Pos} (T : XE.Err X.K C fI f bmB newId) (hr : Room k X.A) (mx : X.mg x = some (.ref C)) (ha : PA X [a] ta) (gx : Gl X x := by rfl)
    (he : starEach (a :: []) X.env = (false, eval a X.env) :: starEach [] X.env := by rfl) (hpl : (backTo pos (starEach [] X.env)).any (·.1) = false := by rfl) (nodb : (x == ("__debug__" : Str)) = false := by decide) :
    PE X (.Call (.Name x p) [a] [] pos) (tErr C f.s ta) := by
  refine ⟨fun pins s σ H Q I h => ?_⟩
  refine wpAny_Call_Name_kw (ld_glob I gx mx ?_ nodb)
  refine PySem.W.callWith_K (h₀ := X.base) I.ok.mod.kin T.kC (thn (ha.run pos pins s σ H _ I h) fun us s1 hh => ?_) he hpl
  obtain ⟨vs, H1, I1, r1, v, ev, q1⟩ := hh
  subst ev
  refine ⟨I1.kIn, ?_⟩
  cases r1 with
  | cons rv rn =>
    rename_i v' us'
    cases rn
    show wpAny _ _ (call (.ref C) [v']) _ _ _
    have hlim := I1.nolimit
    obtain ⟨hp, g, dr, tk, os⟩ := s1
    refine wpAny_call (XE.err_made T I1.kIn hlim (by have := hr.dp; omega) fun h' tk' e d M => ?_)
    obtain ⟨t, hoe⟩ := M.obj
    have hns := M.ns
    obtain ⟨G', g1, g2⟩ := restrict h' fun b => decide (b ≠ e)
    have gk : ∀ b, b ≠ e → G'.get? b = h'.get? b := fun b hb => g1 b (decide_eq_true hb)
    have ge : G'.get? e = none := g2 e (by simp)
    have old : ∀ b o, hp.get? b = some o → G'.get? b = some o := fun b o q => (gk b (Nat.ne_of_lt (Nat.lt_of_lt_of_le (Heap.lt_size q) M.new))).trans (M.keep b o q)
    have back : ∀ b o, G'.get? b = some o → h'.get? b = some o := fun b o q => by
      by_cases hb : b = e
      · rw [hb, ge] at q
        cases q
      · exact (gk b hb).symm.trans q
    have nsG : G'.Ns1 d (fun y => if y = f.s then some v' else none) := hns.at (fun o q => (gk d M.dne).trans q)
    have J : Inv X pins σ (upd H1 d (exd d [(f.s, v)])) ⟨G', g, dr, tk', os⟩ := I1.laid (t' := tk') old M.dbig (exd_ok nsG (relO_put (fs := []) rv fun g => True.intro))
    have fe : H1 e = none := I1.hok.fresh M.new
    have fd : H1 d = none := I1.hok.fresh M.dbig
    have fe2 : (upd H1 d (exd d [(f.s, v)])) e = none := by
      rw [upd_ne M.dne.symm]
      exact fe
    have J2 : Inv X pins σ (upd (upd H1 d (exd d [(f.s, v)])) e (exo e C (some d))) ⟨h', g, dr, tk', os⟩ := J.laidN (t' := tk') back ge fe2 (exo_ok hoe)
    exact ⟨.ref e, _, J2, rfl, q1 e d fe fd M.dne⟩
/-- e.n, e such an exception -/
def tErrF (K : PySem.W.Frag) (n : Str) (te : TE) : TE := fun σ H Q => te σ H fun x H1 => ∃ (a C d fI : Addr) (f : XE.Fl) (bmB : List Value) (newId : String) (v : V), x = .ref a ∧ f.s = n ∧ XE.Err K C fI f bmB newId ∧ H1 a = some (exo a C (some d)) ∧ H1 d = some (exd d [(n, v)]) ∧ Q v H1
theorem pe_errF {X : Cx} {e : Expr} {te : TE} {pos : Pos} {n : Str} (he : PE X e te) (hb : attributeBase e n X.env (eval e X.env) = eval e X.env := by rfl) : PE X (.Attribute e n pos) (tErrF X.K n te) := by
  refine ⟨fun pins s σ H Q I h => ?_⟩
  refine attr_of hb (thn (he.run pins s σ H _ I h) fun u s1 ⟨x, H1, I1, rx, a, C, d, fI, f, bmB, newId, v, ex, en, T, ea, ed, q⟩ => ?_)
  subst ex
  subst en
  obtain rfl : u = Value.ref a := rx
  obtain ⟨t1, ho⟩ := exo_at I1.hok ea
  obtain ⟨mA, hns, hr⟩ := exd_at I1.hok ed
  obtain ⟨od, hod, hl⟩ := lookIn_ns hns
  have e1 : List.lookup f.s [(f.s, v)] = some v := by simp [List.lookup]
  obtain ⟨u, hu, ru⟩ := RelO.some_of (v := v) (o := mA f.s) (by rw [← e1]; exact hr f.s)
  have J : PySem.W.InstAt s1.heap a _ C (some od) := ⟨ho, rfl, rfl, hod⟩
  refine HandSPX.exc_get I1.kIn J T.ga T.gg T.exC (PySem.W.findObj_own T.hd T.noF rfl (by rw [hl, hu])) (handed_of ru) ⟨v, H1, I1.tok _, ru, q⟩
/-- isinstance(e, c), e such an exception -/
def rErrIs (K : PySem.W.Frag) : List V → Hp → VK → Prop := fun xs H Q => ∃ (a C fI : Addr) (d : Option Addr) (f : XE.Fl) (bmB : List Value) (newId : String) (c : V) (cv : Value) (b : Bool), xs = [.ref a, c] ∧ ClsV c cv ∧ XE.Err K C fI f bmB newId ∧ H a = some (exo a C d) ∧
  (∀ d', d = some d' → ∃ fs, H d' = some (exd d' fs)) ∧ PySem.W.kitOne K (.ref C) cv = some b ∧ Q (.bl b) H
theorem call_errIs {X : Cx} : CallR X (.builtin "isinstance") (rErrIs X.K) := by
  intro pins s σ H xs us Q I r h
  obtain ⟨a, C, fI, d, f, bmB, newId, c, cv, b, rfl, k, T, ea, ed, e, q⟩ := h
  obtain ⟨u1, u2, rfl, r1, r2⟩ := vals2 r
  have e2 := k.eq r2
  subst e2
  obtain rfl : u1 = Value.ref a := r1
  obtain ⟨t1, ho⟩ := exo_at I.hok ea
  have hcl : (PySem.W.clsIn X.K C).isSome = true := by
    obtain ⟨cd, hc, _⟩ := PySem.W.any_some T.hd
    rw [hc]
    rfl
  have J : ∃ od ox, PySem.W.InstAt s.heap a ox C od := by
    cases d with
    | none => exact ⟨none, _, ho, rfl, rfl, trivial⟩
    | some d' =>
      obtain ⟨fs, ef⟩ := ed d' rfl
      obtain ⟨mA, hns, _⟩ := exd_at I.hok ef
      obtain ⟨od, hod, _⟩ := lookIn_ns hns
      exact ⟨some od, _, ho, rfl, rfl, hod⟩
  obtain ⟨od, ox, J⟩ := J
  exact PySem.W.kia_one (PySem.W.kitx_exc hcl T.ga T.gg T.exC T.cl T.sp T.tc T.mo) I.kIn J e (fun z => nomatch z) fun tk => ⟨.bl b, H, I.tok tk, rfl, q⟩
end L2

set_option maxRecDepth 100000
set_option maxHeartbeats 4000000
/-! an exception that is caught, put into another name, and looked at behind the suite -/
namespace L2
open PySem PySem.Spec PyProof.Rows
/-- an exception's object of class cls, dict d, whatever its flight left in it -/
def exk (a : Addr) (cls : Value) (d : Option Addr) : HO := .ext fun h => ∃ (oe : Obj) (vs : Array Value), h.get? a = some oe ∧ Zc cls d oe ∧ oe.data = .fields vs
theorem exk_ok {P : Program} {w : World} {H : Hp} {h : Heap} {a : Addr} {cls : Value} {d : Option Addr} {oe : Obj} {vs : Array Value} (e : h.get? a = some oe) (z : Zc cls d oe) (f : oe.data = .fields vs) : ObjOk P w H h a (exk a cls d) :=
  ⟨⟨oe, vs, e, z, f⟩, ⟨oe, e⟩, fun h1 h2 q k => by
    obtain ⟨o1, v1, e1, z1, f1⟩ := q
    exact ⟨o1, v1, k _ e1, z1, f1⟩⟩
theorem exk_at {P : Program} {w : World} {H : Hp} {h : Heap} {a b : Addr} {cls : Value} {d : Option Addr} (hok : HOk P w H h) (he : H a = some (exk b cls d)) (hb : b = a) : ∃ (oe : Obj) (vs : Array Value), h.get? a = some oe ∧ Zc cls d oe ∧ oe.data = .fields vs := by
  subst hb
  have x : ObjOk P w H h b (exk b cls d) := hok b _ he
  exact x.1
section
variable {X : Cx} {pins : List (Addr × Obj)} {σ : St} {H : Hp} {sI s s' : Shared} {B : Heap}
/-- the state with a caught exception in it, which is ours from now on -/
theorem Inv.caught {a : Addr} {cls : Value} {d : Option Addr} (I : Inv X pins σ H sI) (nb : ∀ b o, sI.heap.get? b = some o → b ∉ frs X.stack → B.get? b = some o) (up : sI.heap.UpToSlots s'.heap) (os : s'.os = sI.os) (ag : AllBare s'.gens)
    (fl : HandSPX.FlyingZ B X.stack a (Zc cls d) s'.heap) (na : H a = none) : Inv X pins σ (upd H a (exk a cls d)) s' := by
  have J := I.landed nb fl.1 up os ag
  obtain ⟨oe, vs, he, hz, hd⟩ := fl.there
  have out : a ∉ frs X.stack := fun hm => by
    obtain ⟨_, o, e, hn⟩ := fl.2.2.1.mem hm
    rw [he] at e
    cases e
    exact hn _ hd
  have fresh : sI.heap.get? a = none := by
    cases e : sI.heap.get? a with
    | none => rfl
    | some o =>
      have z := nb a o e out
      rw [fl.2.1] at z
      cases z
  have ne : ∀ b o, sI.heap.get? b = some o → b ≠ a := fun b o e z => by
    rw [z, fresh] at e
    cases e
  have moved : ∀ b ∈ frs X.stack, ∀ o, sI.heap.get? b = some o → ∃ sl, s'.heap.get? b = some { o with slots := sl } := fun b hb o e => by
    obtain ⟨_, o2, e2, hn⟩ := I.stack.mem hb
    rw [e] at e2
    cases e2
    exact up b o e hn
  refine I.call' (ch := []) os ⟨fun b o e _ hb _ => fl.1 b o (nb b o e hb), fun b o e _ hb _ => moved b hb o e, fun b o e n _ => ?_, fun b o e _ => ?_, fun b xs e => ?_, fun b o u e => ?_, fun b ps e => ?_⟩
    (J.hok.laidN (fun _ _ e => e) na (exk_ok he hz hd)) ag (fun _ z => nomatch z)
  · rw [upd_ne (ne b o e)]
    exact n
  · by_cases hb : b ∈ frs X.stack
    · obtain ⟨sl, q⟩ := moved b hb o e
      exact ⟨_, q⟩
    · exact ⟨o, fl.1 b o (nb b o e hb)⟩
  · rw [upd_ne (ne_of_none e na)]
    exact e
  · rw [upd_ne (ne_of_none e na)]
    exact e
  · exact ⟨#[], by rw [upd_ne (ne_of_none e na), e]; simp⟩
theorem Inv.intoSuite (I : Inv X pins σ H s) (a : Addr) : Inv (X.suite a (X.pn ++ pins)) [] σ H s :=
  ⟨I.ok.suite _ _, I.os, I.bare, I.base, I.loc, I.cell, I.free, I.freeC, fun p hp => I.pin p (by rw [List.append_nil] at hp; exact hp), I.hok, I.len⟩
theorem Inv.outOfSuite {a : Addr} (I : Inv (X.suite a (X.pn ++ pins)) [] σ H s) (ok : X.Ok) : Inv X pins σ H s :=
  ⟨ok, I.os, I.bare, I.base, I.loc, I.cell, I.free, I.freeC, fun p hp => I.pin p (by rw [List.append_nil]; exact hp), I.hok, I.len⟩
end
/-- the clause's wish: class and dict decide; the object is ours, at the name's slot, which is empty behind the suite -/
def wKeep (K : PySem.W.Frag) (c : Value) (i : Nat) (ts : TS) (Wout : WX) (D : Ends) : WX := fun cls d σ H =>
  ∃ b, PySem.W.exmOne K cls c = some b ∧ (b = false → Wout cls d σ H) ∧
    (b = true → ∀ a, H a = none → ts { nx := fun σ' H' => D.nx (σ'.set i none) H', rt := D.rt, bk := fun σ' H' => D.bk (σ'.set i none) H', ct := fun σ' H' => D.ct (σ'.set i none) H' } (σ.set i (some (.ref a))) (upd H a (exk a cls d)))
section
variable {X : Cx} {x n : Str} {c : Value} {i : Nat} {body suite : List Stmt} {b₀ : Stmt} {np pos pos' : Pos} {tb : WX → TS} {ts : TS} {Wout : WX}
/-- behind the suite: the clause's name goes, the rest stays -/
theorem keep_end {pins : List (Addr × Obj)} {D : Ends} {a : Addr} {fl : Flow} {s : Shared} (ok : X.Ok) (hN : X.N.Nodup) (hi : X.N[i]? = some n) (hln : X.env.kindOf n = some .local)
    (q : SP (X.suite a (X.pn ++ pins)) [] { nx := fun σ' H' => D.nx (σ'.set i none) H', rt := D.rt, bk := fun σ' H' => D.bk (σ'.set i none) H', ct := fun σ' H' => D.ct (σ'.set i none) H' } fl s) :
    wpAny (model X.prog X.w) X.A (do bindName X.env n .none; unbindBehindTheSuite X.env n pos') (fun _ t => SP X pins D fl t) X.xe s := by
  cases fl with
  | ret u =>
    obtain ⟨v, σ1, H1, I1, r, z⟩ := q
    exact gone_ok (I1.outOfSuite ok) hN hi hln fun t J => ⟨v, _, H1, J, r, z⟩
  | next =>
    obtain ⟨σ1, H1, I1, z⟩ := q
    exact gone_ok (I1.outOfSuite ok) hN hi hln fun t J => ⟨_, H1, J, z⟩
  | brk =>
    obtain ⟨σ1, H1, I1, z⟩ := q
    exact gone_ok (I1.outOfSuite ok) hN hi hln fun t J => ⟨_, H1, J, z⟩
  | cont =>
    obtain ⟨σ1, H1, I1, z⟩ := q
    exact gone_ok (I1.outOfSuite ok) hN hi hln fun t J => ⟨_, H1, J, z⟩
/-- what is raised in the body meets the clause -/
theorem keep_catch {pins pn : List (Addr × Obj)} {xe : Value → Shared → Prop} {D : Ends} {u : Value} {s : Shared} (ok : X.Ok) (hpn : pn = X.pn ++ pins) (hs : X.stack = X.env :: X.outer) (hf : X.env.frame = some X.env.locals) (hN : X.N.Nodup) (hi : X.N[i]? = some n)
    (hln : X.env.kindOf n = some .local) (hc : Names X x c) (tk : Takes X Wout) (hsu : ∀ (a : Addr) (pn : List (Addr × Obj)), PSs (X.suite a pn) (b₀ :: suite) ts) (air : XE (X.tr pn xe) (wKeep X.K c i ts Wout D) u s) :
    wpAny (model X.prog X.w) X.A (noteFrame u X.env) (fun _ s2 => wpAny (model X.prog X.w) X.A (setFlight u none)
      (fun _ s3 => wpAny (model X.prog X.w) X.A (handleBy u X.env [.ExceptHandler (some (.Name x np)) (some n) (b₀ :: suite) pos']) (SP X pins D) X.xe s3) X.xe s2) X.xe s := by
  subst hpn
  obtain ⟨a, B, sI, pins1, σ1, H1, cls, d, rfl, J0, nb, up, sky, na, os, ag, b, hb1, no, yes⟩ := air
  have J : Inv X pins σ1 H1 sI := J0.ofTry ok
  have frames : X.A.frames = some (X.env :: X.outer) := ok.frames.trans (congrArg some hs)
  have sky1 : Sky B (X.env :: X.outer) a (Zc cls d) X.env.locals s.heap := hs ▸ sky
  refine Sky.land Zc.steady frames hf sky1 fun h3 fl3 up3 => ?_
  have fl3' : HandSPX.FlyingZ B X.stack a (Zc cls d) h3 := hs ▸ fl3
  have J3 : Inv X pins σ1 (upd H1 a (exk a cls d)) { s with heap := h3 } := J.caught (s' := { s with heap := h3 }) nb (up.trans up3) os ag fl3' na
  obtain ⟨oe, vs, he, hz, hd⟩ := fl3.there
  have cl : PySem.W.Looks (model X.prog X.w) h3 (typeOf (.ref a)) cls := fun A Q E t k q => wpAny_typeOf_ref (k _ _ he) (by rw [hz.1]; exact q)
  have mt := PySem.W.exm_one (M := model X.prog X.w) J3.kIn cl hb1
  have S3 := J3.intoSuite a
  refine wpAny_handleBy_cons (codeAny_handlers_test ?_) (by intro q; cases q)
  have name : ∀ {Q : Value → Shared → Prop} {E : Value → Shared → Prop}, Q c { s with heap := h3 } → wpAny (model X.prog X.w) (X.A.mark (some (.ref a))) (eval (.Name x np) X.env) Q E { s with heap := h3 } := fun {Q E} q => by
    rcases hc with ⟨hg, hdb, hm | ⟨hm, hv, hnn⟩⟩
    · exact ld_glob (X := X.suite a (X.pn ++ pins)) S3 hg hm q hdb
    · exact ld_blt (X := X.suite a (X.pn ++ pins)) S3 hg hm hv q hnn hdb
  refine name (mt.here ?_)
  cases b with
  | false =>
    show wpAny _ X.A (handleBy (.ref a) X.env []) _ _ _
    refine wpAny_handleBy_nil ?_
    obtain ⟨_, _, _, oe2, vs2, T, oT, ts2, he2, _, hd2, h12, _⟩ := id fl3
    have up_again : wpAny (model X.prog X.w) X.A (setFlight (.ref a) X.env.frame) (fun _ s4 => wpAny (model X.prog X.w) X.A (throw (.ref a) : Sem Flow) (SP X pins D) X.xe s4) X.xe { s with heap := h3 } := by
      rw [hf]
      exact HandSPX.setFlight_upZ fl3 fun h4 held up4 => wpAny_throw (tk _ _ ⟨a, B, sI, pins, σ1, H1, cls, d, rfl, J, nb, (up.trans up3).trans up4, .inr (.inr (hs.symm ▸ held)), na, os, ag, no rfl⟩)
    unfold PySem.passOn
    refine wpAny_bind (wpAny_field he2 hd2 h12 ?_)
    rw [if_neg (show ¬ ((Value.ref T == Value.none) = true) from by simp)]
    first
      | exact wpAny_bind (wpAny_pure (wpAny_bind up_again))
      | exact wpAny_bind up_again
  | true =>
    refine codeAny_handlers_suite_as (HandSPX.lands_againZ fl3 fun h4 fl4 up4 => ?_)
    have fl4' : HandSPX.FlyingZ B X.stack a (Zc cls d) h4 := hs ▸ fl4
    have J4 : Inv X pins σ1 (upd H1 a (exk a cls d)) { s with heap := h4 } := J.caught (s' := { s with heap := h4 }) nb ((up.trans up3).trans up4) os ag fl4' na
    refine store_ok (X := X.suite a (X.pn ++ pins)) (v := .ref a) (J4.intoSuite a) hN hi (.inl hln) rfl (fun s5 S5 => ?_) (.inr hln)
    exact wpAny_mono ((hsu a (X.pn ++ pins)).run [] s5 _ _ _ S5 (yes rfl a na)) (fun fl s6 z => keep_end ok hN hi hln z) (fun _ _ z => False.elim z)
theorem ps_try_keep (hs : X.stack = X.env :: X.outer) (hf : X.env.frame = some X.env.locals) (hN : X.N.Nodup) (hi : X.N[i]? = some n) (hln : X.env.kindOf n = some .local) (hc : Names X x c) (tk : Takes X Wout)
    (hb : ∀ (W : WX) (pn : List (Addr × Obj)) (xe : Value → Shared → Prop), Takes (X.tr pn xe) W → PassesOwn (model X.prog X.w) X.A X.env xe → PSs (X.tr pn xe) body (tb W)) (hsu : ∀ (a : Addr) (pn : List (Addr × Obj)), PSs (X.suite a pn) (b₀ :: suite) ts) :
    PS X (.Try body [.ExceptHandler (some (.Name x np)) (some n) (b₀ :: suite) pos'] [] [] pos) (fun D σ H => tb (wKeep X.K c i ts Wout D) D σ H) := by
  refine ⟨fun pins s σ H D I h => wpAny_Try_except ?_⟩
  have ok := I.ok
  refine wpAny_mono ((hb (wKeep X.K c i ts Wout D) (X.pn ++ pins) _ (fun u t air => keep_catch ok rfl hs hf hN hi hln hc tk hsu air) PassesOwn.looking).run [] s σ H D (I.toTry _) h) (fun fl t z => ?_) (fun _ _ z => z)
  cases fl with
  | ret u =>
    obtain ⟨v, σ1, H1, I1, r, q⟩ := z
    exact ⟨v, σ1, H1, I1.ofTry ok, r, q⟩
  | next =>
    obtain ⟨σ1, H1, I1, q⟩ := z
    exact wpAny_execs_nil ⟨σ1, H1, I1.ofTry ok, q⟩
  | brk =>
    obtain ⟨σ1, H1, I1, q⟩ := z
    exact ⟨σ1, H1, I1.ofTry ok, q⟩
  | cont =>
    obtain ⟨σ1, H1, I1, q⟩ := z
    exact ⟨σ1, H1, I1.ofTry ok, q⟩
end
end L2

set_option maxRecDepth 100000
set_option maxHeartbeats 4000000
namespace L2
open PySem PySem.Spec PyProof.Rows
/-- raise C(e), C such a class: its dict d holds the field -/
def tMkErr (C : Addr) (f : Str) (ta : TA) : St → Hp → XK → Prop := fun σ H Q => ta σ H fun vs H1 => ∃ v, vs = [v] ∧ ∀ d, H1 d = none → Q (.ref C) (some d) (upd H1 d (exd d [(f, v)]))
theorem pmk_err {X : Cx} {C fI : Addr} {f : XE.Fl} {bmB : List Value} {newId : String} {k : Nat} {x : Str} {a : Expr} {ta : TA} {p pos : Pos} (T : XE.Err X.K C fI f bmB newId) (tyC : PySem.W.typeIn X.K (.ref C) = some (.type "type")) (hr : Room k X.A) (mx : X.mg x = some (.ref C)) (ha : PA X [a] ta) (gx : Gl X x := by rfl)
    (he : starEach (a :: []) X.env = (false, eval a X.env) :: starEach [] X.env := by rfl) (hpl : (backTo pos (starEach [] X.env)).any (·.1) = false := by rfl) (nodb : (x == ("__debug__" : Str)) = false := by decide) :
    PMk X (.Call (.Name x p) [a] [] pos) (tMkErr C f.s ta) := by
  intro pins s σ H Q I h
  refine wpAny_Call_Name_kw (ld_glob I gx mx ?_ nodb)
  refine PySem.W.callWith_K (h₀ := X.base) I.ok.mod.kin T.kC (thn (ha.run pos pins s σ H _ I h) fun us s1 hh => ?_) he hpl
  obtain ⟨vs, H1, I1, r1, v, ev, q1⟩ := hh
  subst ev
  refine ⟨I1.kIn, ?_⟩
  cases r1 with
  | cons rv rn =>
    rename_i v' us'
    cases rn
    show wpAny _ _ (call (.ref C) [v']) _ _ _
    have hlim := I1.nolimit
    obtain ⟨hp, g, dr, tk, os⟩ := s1
    refine wpAny_call (XE.err_made T I1.kIn hlim (by have := hr.dp; omega) fun h' tk' e d M => ?_)
    obtain ⟨t, hoe⟩ := M.obj
    have hns := M.ns
    obtain ⟨G', g1, g2⟩ := restrict h' fun b => decide (b ≠ e)
    have gk : ∀ b, b ≠ e → G'.get? b = h'.get? b := fun b hb => g1 b (decide_eq_true hb)
    have ge : G'.get? e = none := g2 e (by simp)
    have old : ∀ b o, hp.get? b = some o → G'.get? b = some o := fun b o q => (gk b (Nat.ne_of_lt (Nat.lt_of_lt_of_le (Heap.lt_size q) M.new))).trans (M.keep b o q)
    have back : ∀ b o, G'.get? b = some o → h'.get? b = some o := fun b o q => by
      by_cases hb : b = e
      · rw [hb, ge] at q
        cases q
      · exact (gk b hb).symm.trans q
    have nsG : G'.Ns1 d (fun y => if y = f.s then some v' else none) := hns.at (fun o q => (gk d M.dne).trans q)
    have J : Inv X pins σ (upd H1 d (exd d [(f.s, v)])) ⟨G', g, dr, tk', os⟩ := I1.laid (t' := tk') old M.dbig (exd_ok nsG (relO_put (fs := []) rv fun g => True.intro))
    have fe : H1 e = none := I1.hok.fresh M.new
    have fd : H1 d = none := I1.hok.fresh M.dbig
    have fe2 : (upd H1 d (exd d [(f.s, v)])) e = none := by
      rw [upd_ne M.dne.symm]
      exact fe
    exact ⟨e, _, _, ⟨G', g, dr, tk', os⟩, _, .ref C, some d, rfl, J, back, ge, hoe, ⟨rfl, rfl⟩, rfl, rfl, fe2, rfl, I1.bare, raises_own T.exC tyC, q1 d fd⟩
/-- the object of a kept exception, its dict's object -/
theorem exk_inst {X : Cx} {pins : List (Addr × Obj)} {σ : St} {H : Hp} {s : Shared} {a C d : Addr} {fs : List (Str × V)} (I : Inv X pins σ H s) (ea : H a = some (exk a (.ref C) (some d))) (ed : H d = some (exd d fs)) :
    ∃ (ox : Obj) (od : Obj) (mA : Str → Option Value), PySem.W.InstAt s.heap a ox C (some od) ∧ (∀ f, RelO (fs.lookup f) (mA f)) ∧ ∀ n, PySem.W.lookIn n od = some (mA n) := by
  obtain ⟨oe, vs, he, hz, hd⟩ := exk_at I.hok ea rfl
  obtain ⟨mA, hns, hr⟩ := exd_at I.hok ed
  obtain ⟨od, hod, hl⟩ := lookIn_ns hns
  refine ⟨oe, od, mA, ⟨he, hz.1, ?_, ?_⟩, hr, hl⟩
  · unfold PySem.W.notCls
    rw [hd]
  · rw [hz.2]
    exact hod
/-- e.n, e such an exception that was caught -/
def tErrK (K : PySem.W.Frag) (n : Str) (te : TE) : TE := fun σ H Q => te σ H fun x H1 => ∃ (a C d fI : Addr) (f : XE.Fl) (bmB : List Value) (newId : String) (v : V), x = .ref a ∧ f.s = n ∧ XE.Err K C fI f bmB newId ∧ H1 a = some (exk a (.ref C) (some d)) ∧ H1 d = some (exd d [(n, v)]) ∧ Q v H1
theorem pe_errK {X : Cx} {e : Expr} {te : TE} {pos : Pos} {n : Str} (he : PE X e te) (hb : attributeBase e n X.env (eval e X.env) = eval e X.env := by rfl) : PE X (.Attribute e n pos) (tErrK X.K n te) := by
  refine ⟨fun pins s σ H Q I h => ?_⟩
  refine attr_of hb (thn (he.run pins s σ H _ I h) fun u s1 ⟨x, H1, I1, rx, a, C, d, fI, f, bmB, newId, v, ex, en, T, ea, ed, q⟩ => ?_)
  subst ex
  subst en
  obtain rfl : u = Value.ref a := rx
  obtain ⟨ox, od, mA, J, hr, hl⟩ := exk_inst I1 ea ed
  have e1 : List.lookup f.s [(f.s, v)] = some v := by simp [List.lookup]
  obtain ⟨u, hu, ru⟩ := RelO.some_of (v := v) (o := mA f.s) (by rw [← e1]; exact hr f.s)
  exact HandSPX.exc_get I1.kIn J T.ga T.gg T.exC (PySem.W.findObj_own T.hd T.noF rfl (by rw [hl, hu])) (handed_of ru) ⟨v, H1, I1.tok _, ru, q⟩
/-- isinstance(e, c), e such an exception that was caught -/
def rErrKIs (K : PySem.W.Frag) : List V → Hp → VK → Prop := fun xs H Q => ∃ (a C fI d : Addr) (fs : List (Str × V)) (f : XE.Fl) (bmB : List Value) (newId : String) (c : V) (cv : Value) (b : Bool), xs = [.ref a, c] ∧ ClsV c cv ∧ XE.Err K C fI f bmB newId ∧ H a = some (exk a (.ref C) (some d)) ∧
  H d = some (exd d fs) ∧ PySem.W.kitOne K (.ref C) cv = some b ∧ Q (.bl b) H
theorem call_errKIs {X : Cx} : CallR X (.builtin "isinstance") (rErrKIs X.K) := by
  intro pins s σ H xs us Q I r h
  obtain ⟨a, C, fI, d, fs, f, bmB, newId, c, cv, b, rfl, k, T, ea, ed, e, q⟩ := h
  obtain ⟨u1, u2, rfl, r1, r2⟩ := vals2 r
  have e2 := k.eq r2
  subst e2
  obtain rfl : u1 = Value.ref a := r1
  obtain ⟨ox, od, mA, J, _, _⟩ := exk_inst I ea ed
  have hcl : (PySem.W.clsIn X.K C).isSome = true := by
    obtain ⟨cd, hc, _⟩ := PySem.W.any_some T.hd
    rw [hc]
    rfl
  exact PySem.W.kia_one (PySem.W.kitx_exc hcl T.ga T.gg T.exC T.cl T.sp T.tc T.mo) I.kIn J e (fun z => nomatch z) fun tk => ⟨.bl b, H, I.tok tk, rfl, q⟩
end L2

set_option maxRecDepth 100000
set_option maxHeartbeats 4000000
/-! sets of texts, few: made of a list, sorted -/
namespace L2
open PySem PySem.Spec PyProof.Rows
/-- the text of an entry -/
def txt (e : Int × Value) : Str := match e.2 with
  | .str k _ => k
  | _ => Str.empty
def TxtE (P : Program) (w : World) (e : Int × Value) : Prop := ∃ k t, e.2 = .str k t ∧ e.1 = (strKind P w).hash k
/-- the set's own parts: what stands in it (ks, as it stands), a table that can be walked -/
structure TxtS (P : Program) (w : World) (es : Array (Int × Value)) (t : SetTable) (ks : List Str) : Prop where
  all : ∀ e ∈ es.toList, TxtE P w e
  keys : es.toList.map txt = ks
  nd : ks.Nodup
  few : es.size < scanBound
  fits : t.fits es.size = true
  ris : Ris t.place.toList
  led : w.params.followText "set-order" = true ∨ t.led = true
def SetS (P : Program) (w : World) (h : Heap) (a : Addr) (ks : List Str) : Prop := ∃ o es ep t, h.get? a = some o ∧ o.ExactSet ∧ o.data = .set es ep t ∧ TxtS P w es t ks
section
variable {P : Program} {w : World} {A : Around} {E : Value → Shared → Prop} {s : Shared} {a : Addr} {ks : List Str} {es : Array (Int × Value)} {t : SetTable} {k : Str}
theorem TxtE.eq {e : Int × Value} (x : TxtE P w e) (k : Str) : (strKind P w).is k e.2 = true ↔ txt e = k := by
  obtain ⟨k0, u, e2, _⟩ := x
  unfold txt
  rw [e2]
  exact beq_iff_eq
theorem TxtS.elems (x : TxtS P w es t ks) : ElemsOf (strKind P w) es.toList := fun e he => by
  obtain ⟨k, u, e2, e1⟩ := x.all e he
  exact ⟨⟨k, by rw [e2]; exact strKind_is P w k u, e1⟩, by rw [e2]; rfl⟩
theorem TxtS.size (x : TxtS P w es t ks) : es.size = ks.length := by
  have e := congrArg List.length x.keys
  rw [List.length_map, Array.length_toList] at e
  exact e
/-- where the scan ends -/
theorem TxtS.met (x : TxtS P w es t ks) (k : Str) : (k ∈ ks ∧ ∃ j, es.toList.findIdx? (fun e => (strKind P w).is k e.2) = some j) ∨ (k ∉ ks ∧ es.toList.findIdx? (fun e => (strKind P w).is k e.2) = none) := by
  cases q : es.toList.findIdx? (fun e => (strKind P w).is k e.2) with
  | some j =>
    refine .inl ⟨?_, j, rfl⟩
    obtain ⟨hj, p, _⟩ := List.findIdx?_eq_some_iff_getElem.mp q
    have m := List.getElem_mem hj
    rw [← x.keys]
    exact List.mem_map.mpr ⟨_, m, ((x.all _ m).eq k).mp p⟩
  | none =>
    refine .inr ⟨fun m => ?_, rfl⟩
    rw [← x.keys] at m
    obtain ⟨e, he, ek⟩ := List.mem_map.mp m
    have z := List.findIdx?_eq_none_iff.mp q e he
    rw [((x.all e he).eq k).mpr ek] at z
    cases z
/-- the parts laid in another turn -/
theorem TxtS.turn {es' : Array (Int × Value)} {t' : SetTable} (x : TxtS P w es t ks) (pm : es'.toList.Perm es.toList) (f : t'.fits es'.size = true) (r : Ris t'.place.toList) (l : t'.led = t.led) : ∃ ks', TxtS P w es' t' ks' ∧ ks'.Perm ks := by
  have pk : (es'.toList.map txt).Perm ks := by
    rw [← x.keys]
    exact pm.map txt
  have z : es'.size = es.size := by
    have := pm.length_eq
    rw [Array.length_toList, Array.length_toList] at this
    exact this
  exact ⟨_, ⟨fun e he => x.all e (pm.mem_iff.mp he), rfl, pk.nodup_iff.mpr x.nd, by rw [z]; exact x.few, f, r, x.led.imp id fun q => l.trans q⟩, pk⟩
/-- stored; where the table is too full, laid anew -/
theorem setS_store {gw : Bool → Sem Unit} (hg : ∀ (b : Bool) (s₁ : Shared) (Q : Unit → Shared → Prop), Q () s₁ → wpAny (model P w) A (gw b) Q E s₁) {o : Obj} {es0 es1 : Array (Int × Value)} {ep : Nat} {t0 t1 : SetTable} {dm : Bool} {R : Option Bool → Shared → Prop} (ho : s.heap.get? a = some o) (hx : o.ExactSet) (hd : o.data = .set es0 ep t0) (x : TxtS P w es1 t1 ks)
    (hR : ∀ h' ks', Heap.SameBut a s.heap h' → SetS P w h' a ks' → ks'.Perm ks → R (some true) { s with heap := h' }) :
    wpAny (model P w) A (do
      storeSet a es1 t1
      if (!dm && t1.tooFull) = true then do
          gw (relayAll t1 es1 (SetTable.grown es1.size)).2.2
          storeSet a (relayAll t1 es1 (SetTable.grown es1.size)).1 (relayAll t1 es1 (SetTable.grown es1.size)).2.1
          pure (some true)
        else pure (some true)) R E s := by
  refine wpAny_bind (wpAny_storeSet_of ho hd ?_ (fits_of_scanBound x.few))
  have ho1 := store_at (es' := es1) (t' := t1) ho hd
  have same1 := Heap.SameBut.update s.heap a (Obj.putSet es1 t1)
  by_cases c : (!dm && t1.tooFull) = true
  · rw [if_pos c]
    obtain ⟨ks2, x2, p2⟩ := x.turn (relayAll_perm t1 es1 (SetTable.grown es1.size)) (relayAll_fits t1 es1 _) (relayAll_ris t1 es1 _) (relayAll_led t1 es1 _)
    refine wpAny_bind (hg _ _ _ ?_)
    refine wpAny_bind (wpAny_storeSet_of ho1 rfl ?_ (fits_of_scanBound x2.few))
    exact wpAny_pure (hR _ ks2 (same1.trans (Heap.SameBut.update _ a _)) ⟨_, _, _, _, store_at ho1 rfl, hx, rfl, x2⟩ p2)
  · rw [if_neg c]
    exact wpAny_pure (hR _ ks same1 ⟨_, _, _, _, ho1, hx, rfl, x⟩ (List.Perm.refl _))
theorem setS_add {tk : Tok} {Q : Bool → Shared → Prop} (S : SetS P w s.heap a ks) (room : ks.length + 1 < scanBound)
    (hQ : ∀ h' b ks', Heap.SameBut a s.heap h' → SetS P w h' a ks' → (k ∈ ks → ks' = ks) → (k ∉ ks → ks'.Perm (k :: ks)) → Q b { s with heap := h' }) :
    wpAny (model P w) A (setAddHashed a (.str k tk) ((strKind P w).hash k)) Q E s := by
  obtain ⟨o, es, ep, t, ho, hx, hd, x⟩ := S
  have sc : (Value.str k tk).scannable = true := rfl
  unfold setAddHashed setAddHashedIn
  refine wpAny_holding (wpAny_bind (wpAny_setState_of ho hd x.fits ?_))
  dsimp only
  rw [byScan_of sc x.few x.elems]
  simp only [↓reduceIte]
  unfold setAddByScan
  refine wpAny_bind (wpAny_bind (wpAny_rule (wpAny_bind (wpAny_setScan_of (strKind_is P w k tk) ho hd x.fits x.elems ?_))))
  rcases x.met k with ⟨hk, j, e⟩ | ⟨hk, e⟩
  · rw [e]
    dsimp only
    exact wpAny_pure (wpAny_pure (hQ s.heap false ks (Heap.SameBut.refl a s.heap) ⟨o, es, ep, t, ho, hx, hd, x⟩ (fun _ => rfl) (fun z => absurd hk z)))
  · rw [e]
    dsimp only
    have pm := layNew_perm t es ((strKind P w).hash k) (.str k tk)
    have f1 := layNew_fits t es ((strKind P w).hash k) (.str k tk)
    have r1 := layNew_ris t es ((strKind P w).hash k) (.str k tk) x.ris
    have l1 := layNew_led t es ((strKind P w).hash k) (.str k tk)
    generalize layNew t es ((strKind P w).hash k) (.str k tk) = Z at pm f1 r1 l1 ⊢
    obtain ⟨es1, t1, dm, gave⟩ := Z
    dsimp only at pm f1 r1 l1 ⊢
    rw [Array.toList_push] at pm
    have pc : es1.toList.Perm (((strKind P w).hash k, Value.str k tk) :: es.toList) := pm.trans (List.perm_append_singleton _ _)
    have pk : (es1.toList.map txt).Perm (k :: ks) := by
      rw [← x.keys]
      exact pc.map txt
    have sz : es1.size = ks.length + 1 := by
      have := pk.length_eq
      rw [List.length_map, Array.length_toList, List.length_cons] at this
      exact this
    have x1 : ∀ pl : SetTable, pl.fits es1.size = true → Ris pl.place.toList → pl.led = t1.led → TxtS P w es1 pl (es1.toList.map txt) := fun pl f r l =>
      ⟨fun e he => by
        rcases List.mem_cons.mp (pc.mem_iff.mp he) with q | q
        · exact ⟨k, tk, by rw [q], by rw [q]⟩
        · exact x.all e q, rfl, pk.nodup_iff.mpr (List.nodup_cons.mpr ⟨hk, x.nd⟩), by rw [sz]; exact room, f, r, x.led.imp id fun q => by rw [l, l1]; exact q⟩
    have fin : ∀ h' ks', Heap.SameBut a s.heap h' → SetS P w h' a ks' → ks'.Perm (es1.toList.map txt) → Q true { s with heap := h' } := fun h' ks' sb S' p =>
      hQ h' true ks' sb S' (fun z => absurd z hk) (fun _ => p.trans pk)
    have hg : ∀ (b : Bool) (s₁ : Shared) (Q1 : Unit → Shared → Prop), Q1 () s₁ → wpAny (model P w) A (match b with | true => rule "set.scan.the-table-gave-way" | false => pure ()) Q1 E s₁ := fun b s₁ Q1 q => by
      cases b
      · exact wpAny_pure q
      · exact wpAny_rule q
    refine wpAny_bind (hg _ _ _ ?_)
    by_cases c : t1.plain = true
    · rw [if_pos c, hashByValue_scannable 8 sc]
      refine wpAny_bind (wpAny_pure ?_)
      refine setS_store hg ho hx hd (x1 _ ?_ ?_ ?_) fun h' ks' sb S' p => wpAny_pure (fin h' ks' sb S' p)
      · split
        · exact f1
        · exact SetTable.fits_plain_off f1
      · split <;> exact r1
      · split <;> rfl
    · rw [if_neg c]
      refine wpAny_bind (wpAny_pure ?_)
      refine setS_store hg ho hx hd (x1 _ ?_ ?_ ?_) fun h' ks' sb S' p => wpAny_pure (fin h' ks' sb S' p)
      · exact f1
      · exact r1
      · rfl
end
end L2

set_option maxRecDepth 100000
set_option maxHeartbeats 8000000
namespace L2
open PySem PySem.Spec PyProof.Rows
section
variable {P : Program} {w : World} {A : Around} {E : Value → Shared → Prop} {s : Shared} {a : Addr} {ks : List Str}
theorem SetS.at {h h' : Heap} (S : SetS P w h a ks) (k : ∀ o, h.get? a = some o → h'.get? a = some o) : SetS P w h' a ks := by
  obtain ⟨o, es, ep, t, ho, r⟩ := S
  exact ⟨o, es, ep, t, k o ho, r⟩
theorem setS_fresh {h : Heap} (ho : h.get? a = some { cls := .type "set", dict := none, data := .set #[] 0 (.fresh 0 0 (!w.params.followText "set-order")) }) : SetS P w h a [] := by
  refine ⟨_, #[], 0, _, ho, ⟨rfl, rfl, rfl⟩, rfl, fun e he => by simp at he, rfl, List.nodup_nil, by decide, rfl, List.Pairwise.nil, ?_⟩
  show _ ∨ (!w.params.followText "set-order") = true
  cases w.params.followText "set-order"
  · exact .inr rfl
  · exact .inl rfl
/-- of the first i of xs the unlike ones -/
structure Met (xs : List Str) (i : Nat) (ks : List Str) : Prop where
  nd : ks.Nodup
  mem : ∀ z, z ∈ ks ↔ z ∈ xs.take i
  le : ks.length ≤ i
theorem Met.next {xs : List Str} {i : Nat} {ks ks' : List Str} {k : Str} (m : Met xs i ks) (h : xs[i]? = some k) (old : k ∈ ks → ks' = ks) (new : k ∉ ks → ks'.Perm (k :: ks)) : Met xs (i + 1) ks' := by
  have e : xs.take (i + 1) = xs.take i ++ [k] := by rw [List.take_add_one, h]; rfl
  by_cases hk : k ∈ ks
  · rw [old hk]
    refine ⟨m.nd, fun z => ?_, Nat.le_succ_of_le m.le⟩
    rw [e, List.mem_append, ← m.mem z, List.mem_singleton]
    exact ⟨.inl, fun q => q.elim id fun q => q ▸ hk⟩
  · have p := new hk
    refine ⟨p.nodup_iff.mpr (List.nodup_cons.mpr ⟨hk, m.nd⟩), fun z => ?_, by rw [p.length_eq]; exact Nat.succ_le_succ m.le⟩
    rw [e, List.mem_append, ← m.mem z, List.mem_singleton, p.mem_iff, List.mem_cons]
    exact Or.comm
/-- the loop of set(xs) -/
theorem setS_loop {I : Addr} {xs : List Str} {R : Result → Shared → Prop} {fp wr : List Addr} {G : Array GenState → Array GenState → Prop} {St : Nat → Shared → Prop} {Pv : Nat → Value → Prop}
    (W : WalksS P w A.in1 I fp wr G xs.length Pv St) (out : a ∉ fp) (few : xs.length + 1 < scanBound) (val : ∀ i v, Pv i v → ∃ k t, xs[i]? = some k ∧ v = .str k t)
    (fin : ∀ s' ks, Moved (a :: wr) G s s' → SetS P w s'.heap a ks → Met xs xs.length ks → R (.ok (.ret .none)) s') (st : St 0 s) (S : SetS P w s.heap a []) : codeAny (model P w) A (.builtin "set.update.loop" ⟨[.ref a, .ref I], []⟩) R s := by
  have aw : a ∉ wr := fun h => out (W.sub _ h)
  have more : ∀ b ∈ wr, b ∈ a :: wr := fun b hb => List.mem_cons_of_mem _ hb
  have go : ∀ (m i : Nat) (s1 : Shared) (ks : List Str), xs.length - i = m → i ≤ xs.length → St i s1 → SetS P w s1.heap a ks → Met xs i ks → (∀ s' ks, Moved (a :: wr) G s1 s' → SetS P w s'.heap a ks → Met xs xs.length ks → R (.ok (.ret .none)) s') →
      codeAny (model P w) A (.builtin "set.update.loop" ⟨[.ref a, .ref I], []⟩) R s1 := by
    intro m
    induction m with
    | zero =>
      intro i s1 ks hm hi st1 S1 met fin1
      obtain rfl : i = xs.length := by omega
      refine codeAny_builtin F.entry_set_update_loop ?_
      rw [Around.under_plainId F.plain_set_update_loop _]
      refine wpAny_bind (W.done s1 _ _ st1 fun s2 mv => ?_)
      exact wpAny_pure (fin1 s2 ks (mv.mono more) (S1.at fun o e => mv.heap a o aw e) met)
    | succ m ih =>
      intro i s1 ks hm hi st1 S1 met fin1
      have lt : i < xs.length := by omega
      refine codeAny_builtin F.entry_set_update_loop ?_
      rw [Around.under_plainId F.plain_set_update_loop _]
      refine wpAny_bind (W.item i s1 _ _ lt st1 fun v s2 pv st2 mv => ?_)
      obtain ⟨k, tk, hk, rfl⟩ := val i v pv
      have S2 := S1.at (h' := s2.heap) fun o e => mv.heap a o aw e
      refine wpAny_bind (wpAny_holding ?_)
      show wpAny _ A.in1 (setAdd a (.str k tk)) _ _ s2
      unfold setAdd
      refine wpAny_holding (wpAny_bind ((strKind P w).pyHash (k := k) (strKind_is P w k tk) ?_))
      refine setS_add (s := { s2 with toks := s2.toks + 1 }) S2 (by have := met.le; omega) fun h3 b ks3 sb S3 c1 c2 => ?_
      refine wpAny_pure ⟨plainId_quiet F.plain_set_update_loop _, ih (i + 1) _ ks3 (by omega) lt (W.frame _ s2 _ _ st2 (Nat.le_succ _) fun c hc o e => (sb.2 c fun z => out (z ▸ hc)).trans e) S3 (met.next hk c1 c2) fun s4 ks4 mv4 S4 m4 => ?_⟩
      exact fin1 s4 ks4 (Moved.trans W.gtrans ((mv.mono more).then_heap (Nat.le_succ _) fun c o hc e => (sb.2 c fun z => hc (z ▸ List.mem_cons_self)).trans e) mv4) S4 m4
  exact go xs.length 0 s [] (by omega) (Nat.zero_le _) st S ⟨List.nodup_nil, fun z => by simp, Nat.zero_le _⟩ fin
/-- a set with nothing in it -/
abbrev noTxt (w : World) : Obj := { cls := .type "set", dict := none, data := .set #[] 0 (.fresh 0 0 (!w.params.followText "set-order")) }
theorem texts_at {vs : List Value} {xs : List Str} (r : StrsAre vs xs) : ∀ (i : Nat) (v : Value), vs[i]? = some v → ∃ k t, xs[i]? = some k ∧ v = .str k t := by
  induction r with
  | nil => intro i v h; simp at h
  | cons k t r ih =>
    intro i v h
    cases i with
    | zero => exact ⟨k, t, rfl, (Option.some.inj h).symm⟩
    | succ i => exact ih i v h
/-- set's own __init__ over a list of texts -/
theorem setS_init {l a : Addr} {items : Array Value} {xs : List Str} {R : Value → Shared → Prop} (calm : A.handled = none) (hl : s.heap.IsList l items) (r : StrsAre items.toList xs) (few : xs.length + 1 < scanBound) (ha : s.heap.get? a = some (noTxt w)) (la : l < a) (top : a + 1 = s.heap.objs.size)
    (q : ∀ h' tk ks, SetS P w h' a ks → Met xs xs.length ks → (∀ b o, b ≠ a → s.heap.get? b = some o → h'.get? b = some o) → R .none { s with heap := h', toks := tk }) :
    codeAny (model P w) A (.call (.builtin "set.__init__") ⟨[.ref a, .ref l], []⟩) (wants R E) s := by
  have ty : Shared.TypeIs s (.ref a) "set" := ⟨_, ha, rfl⟩
  refine codeAny_call_builtin (R := wants R E) F.called_set.init.plain F.entry_set_init (check_set_init_1 ty ?_)
  obtain ⟨ol, hol, hcl, nl, hdl⟩ := id hl
  obtain ⟨ocls, odict, odata, oslots⟩ := ol
  simp only at hcl hdl
  subst hcl hdl
  have no1 := F.sub_list_set
  have no2 := F.sub_list_frozenset
  have no3 : (Value.type "list" == Value.type "dict") = false := by decide
  unfold Builtin.«set.__init__» noKeywords Builtin.Frozenset.updateFrom
  generalize hPI : pyIter = PI
  wp_walk
  subst hPI
  refine wpAny_pyIter_list hl (wpAny_bind (wpAny_runValue ?_))
  have calm3 : A.in1.in1.handled = none := by simp [calm]
  have as : a < s.heap.objs.size := Nat.lt_of_lt_of_eq (Nat.lt_succ_self a) top
  have nl : l ≠ s.heap.objs.size := Nat.ne_of_lt (Nat.lt_trans la as)
  have na : a ∉ [s.heap.objs.size, l] := by
    simp only [List.mem_cons, List.not_mem_nil, or_false, not_or]
    exact ⟨Nat.ne_of_lt as, Nat.ne_of_gt la⟩
  have sz : items.size = xs.length := by rw [← StrsAre.len_eq r, Array.length_toList]
  have W := (Walks.list (prog := P) (w := w) calm3 s.heap.objs.size l nl items).toS
  rw [sz] at W
  refine setS_loop W na few (fun i v h => texts_at r i v (by rw [Array.getElem?_toList]; exact h)) (fun s2 ks mv S m => ?_) ⟨⟨_, Heap.get?_push_size _ rfl, rfl, rfl⟩, hl.push _⟩ (setS_fresh (Heap.get?_push_of_some _ ha))
  obtain ⟨h2, g2, d2, t2, o2⟩ := s2
  obtain rfl : g2 = s.gens := mv.gens
  obtain rfl : d2 = s.drawn := mv.drawn
  obtain rfl : o2 = s.os := mv.os
  refine wpAny_pure ?_
  show wpAny _ _ (ret Value.none) _ _ _
  exact wpAny_pure (q h2 t2 ks S m fun b o hb e => mv.heap b o (by
    simp only [List.mem_cons, List.not_mem_nil, or_false, not_or]
    exact ⟨hb, Nat.ne_of_lt (Heap.lt_size e)⟩) (Heap.get?_push_of_some _ e))
set_option maxHeartbeats 3200000 in
/-- set(xs), xs a list of texts -/
theorem setS_call {l : Addr} {items : Array Value} {xs : List Str} {Q : Value → Shared → Prop} (calm : A.handled = none) (hl : s.heap.IsList l items) (r : StrsAre items.toList xs) (few : xs.length + 1 < scanBound)
    (q : ∀ h' tk ks, SetS P w h' s.heap.objs.size ks → Met xs xs.length ks → (∀ b o, s.heap.get? b = some o → h'.get? b = some o) → Q (.ref s.heap.objs.size) { s with heap := h', toks := tk }) :
    wpAny (model P w) A (call (.type "set") [.ref l]) Q E s := by
  have made := F.called_set.made
  have sub := F.called_set.sub
  have not1 := F.called_set.notType
  have can := F.called_set.canCreate
  have one := F.typeCall_set_1 (.ref l)
  obtain ⟨c, tl, mro⟩ := F.called_set.mro
  refine wpAny_call (codeAny_of_tree ?_)
  refine wpAny_pure ⟨Code.quiet_builtin _ (by decide +kernel), codeAny_builtin F.entry_type_call ?_⟩
  rw [Around.under_plain (weight_type_call_type "set" [.ref l] []) rfl]
  repeat (any_goals (first | assumption | wp_step))
  refine codeAny_mono (code_set_led1 (.ref l) (E := E) (Q₁ := fun v s1 => v = .ref s.heap.objs.size ∧ s1 = { s with heap := s.heap.push (noTxt w) }) ⟨rfl, rfl⟩) fun res s1 z => ?_
  cases res with
  | error e => exact z
  | ok fl =>
    cases fl with
    | ret v =>
      obtain ⟨rfl, rfl⟩ := z
      have at_ : (s.heap.push (noTxt w)).get? s.heap.objs.size = some (noTxt w) := Heap.get?_push_size _ rfl
      have ty : Shared.TypeIs { s with heap := s.heap.push (noTxt w) } (.ref s.heap.objs.size) "set" := ⟨_, at_, rfl⟩
      have ini := F.called_set.init.lookup
      have bnd := F.called_set.init.bind (.ref s.heap.objs.size)
      repeat (any_goals (first | assumption | wp_step))
      have lt : l < s.heap.objs.size := by
        obtain ⟨_, e, _⟩ := hl
        exact Heap.lt_size e
      refine codeAny_mono (setS_init (E := E) (s := { s with heap := s.heap.push (noTxt w) }) (R := fun v s2 => v = .none ∧ ∃ h' tk ks, s2 = { s with heap := h', toks := tk } ∧ SetS P w h' s.heap.objs.size ks ∧ Met xs xs.length ks ∧ (∀ b o, s.heap.get? b = some o → h'.get? b = some o))
        (by simp [calm]) (hl.push _) r few at_ lt (Heap.size_push ..).symm fun h' tk ks S m k => ⟨rfl, h', tk, ks, rfl, S, m, fun b o e => k b o (Nat.ne_of_lt (Heap.lt_size e)) (Heap.get?_push_of_some _ e)⟩) fun res2 s2 z2 => ?_
      cases res2 with
      | error e => exact z2
      | ok fl2 =>
        cases fl2 with
        | ret v =>
          obtain ⟨rfl, h', tk, ks, rfl, S, m, k⟩ := z2
          repeat (any_goals (first | assumption | wp_step))
          exact q h' tk ks S m k
        | _ => exact z2.elim
    | _ => exact z.elim
end
end L2

set_option maxRecDepth 100000
set_option maxHeartbeats 8000000
namespace L2
open PySem PySem.Spec PyProof.Rows
section
variable {P : Program} {w : World} {A : Around} {E : Value → Shared → Prop} {s : Shared} {a : Addr} {ks : List Str}
theorem strs_of_txt : ∀ (l : List (Int × Value)), (∀ e ∈ l, TxtE P w e) → StrsAre (l.map (·.2)) (l.map txt)
  | [], _ => .nil
  | e :: l, h => by
    obtain ⟨k, u, e2, _⟩ := h e List.mem_cons_self
    have q : txt e = k := by
      unfold txt
      rw [e2]
    rw [List.map_cons, List.map_cons, q, e2]
    exact .cons k u (strs_of_txt l fun x hx => h x (List.mem_cons_of_mem _ hx))
/-- texts in another turn are texts -/
theorem strs_perm {vs us : List Value} {xs : List Str} (r : StrsAre us xs) (p : vs.Perm us) : ∃ ys, StrsAre vs ys ∧ ys.Perm xs := by
  induction p generalizing xs with
  | nil => exact ⟨xs, r, .refl _⟩
  | cons x _ ih =>
    cases r with
    | cons k t r =>
      obtain ⟨ys, h1, h2⟩ := ih r
      exact ⟨k :: ys, .cons k t h1, h2.cons k⟩
  | swap x y l =>
    cases r with
    | cons k t r =>
      cases r with
      | cons j u r => exact ⟨_, .cons j u (.cons k t r), .swap k j _⟩
  | trans _ _ ih1 ih2 =>
    obtain ⟨ys, h1, h2⟩ := ih2 r
    obtain ⟨zs, h3, h4⟩ := ih1 h1
    exact ⟨zs, h3, h4.trans h2⟩
/-- sorted(a set of texts) -/
theorem setS_sorted {Q : Value → Shared → Prop} (S : SetS P w s.heap a ks) (calm : A.handled = none) (few : ks.length < 64)
    (hQ : ∀ s' p (out : Array Value) (c : Nat) (ys : List Str), (∀ b o, s.heap.get? b = some o → s'.heap.get? b = some o) → s'.gens = s.gens → s'.os = s.os → s.heap.objs.size ≤ p →
      s'.heap.get? p = some (seqObj "list" out c) → StrsAre out.toList ys → ys.Perm ks → sortedS ys = true → Q (.ref p) s') :
    wpAny (model P w) A (call (.builtin "sorted") [.ref a]) Q E s := by
  obtain ⟨o, es, ep, t, ho, hx, hd, x⟩ := S
  refine Calls.call_function_entry kind_sorted plain_sorted entry_sorted (args_sorted1 _) ?_
  unfold Builtin.«sorted»
  refine wpAny_bind (m := checkCount "sorted" 1 1 _) (wpAny_pure ?_)
  refine wpAny_bind (collect_set (A := A.in1) calm ⟨o, ho, hx.1, hd⟩ x.fits x.few x.ris x.led fun s1 vs keep big gs os pm => ?_)
  obtain ⟨zs, rz, pz⟩ := strs_perm (strs_of_txt es.toList x.all) pm
  rw [x.keys] at pz
  have lv : vs.length = ks.length := by
    have e1 := StrsAre.len_eq rz
    rw [e1, pz.length_eq]
  have line : vs.length ≤ sizeLine := by
    rw [lv, sizeLine_eq]
    omega
  refine wpAny_bind (wpAny_newList ?_ line)
  have at_ : (s1.heap.push (seqObj "list" vs.toArray 0)).get? s1.heap.objs.size = some (seqObj "list" vs.toArray 0) := Heap.get?_push_size _ rfl
  refine wpAny_bind (wpAny_holding (wpAny_call_entry slot_list_sort ⟨_, at_, rfl⟩ entry_list_sort ?_ (args_list_sort _)))
  refine list_sort_treeKAny strKind_oneLt at_ rz.keysOf (fun v1 v2 rest e => keyKind_strs (by rw [← e]; exact rz)) line fun st hp hs => ?_
  obtain ⟨ys, r1, p1, o1⟩ := sorted_out_str rz hp hs
  obtain ⟨c, hc⟩ := sortedHeap_at (vs := vs) (out := (arrOf st).map (·.2)) at_
  refine ⟨_, rfl, wpAny_pure ⟨_, rfl, hQ _ s1.heap.objs.size _ c ys (fun b u e => ?_) gs os big hc r1 (p1.trans pz) o1⟩⟩
  have lt := Heap.lt_size (keep b u e)
  refine (sortedHeap_old (Nat.ne_of_lt lt) ?_).trans (Heap.get?_push_of_some _ (keep b u e))
  rw [Heap.size_push]
  exact Nat.lt_succ_of_lt lt
end
/-- at a the set of the texts ks -/
def SetSO (P : Program) (w : World) (a : Addr) (ks : List Str) : HO := .ext fun h => SetS P w h a ks
theorem setSO_ok {P : Program} {w : World} {H : Hp} {h : Heap} {a : Addr} {ks : List Str} (S : SetS P w h a ks) : ObjOk P w H h a (SetSO P w a ks) := by
  refine ⟨S, ?_, fun h1 h2 S1 k => S1.at k⟩
  obtain ⟨o, es, ep, t, ho, _⟩ := S
  exact ⟨o, ho⟩
section
variable {X : Cx}
/-- set(xs), xs a list of texts: the unlike ones, in whatever turn -/
def rSetOfS (K : PySem.W.Frag) (P : Program) (w : World) : List V → Hp → VK → Prop := fun vs H Q => ∃ (l : Addr) (xs : List Str), vs = [.ref l] ∧ SqL K H l (xs.map V.str) ∧ xs.length ≤ 1000 ∧
  ∀ (p : Addr) (ks : List Str), H p = none → ks.Nodup → (∀ z, z ∈ ks ↔ z ∈ xs) → ks.length ≤ xs.length → Q (.ref p) (upd H p (SetSO P w p ks))
theorem cr_setOfS (hc : X.calm = true) : CallR X (.type "set") (rSetOfS X.K X.prog X.w) := by
  intro pins s σ H vs us Q I r h
  obtain ⟨l, xs, rfl, hs, few, q⟩ := h
  obtain ⟨its, rv, hl, _⟩ := I.list hs
  rw [Vals.ref1 r]
  refine setS_call (I.ok.hd hc) hl.isList (by simpa using rv.strs) (by unfold scanBound; omega) fun h' tk ks S m k => ?_
  have new : H s.heap.objs.size = none := I.hok.fresh (Nat.le_refl _)
  exact ⟨.ref _, _, I.laid (t' := tk) k (Nat.le_refl _) (setSO_ok S), rfl, q _ ks new m.nd (fun z => by rw [m.mem z, List.take_length]) m.le⟩
/-- sorted(a set of texts) -/
def rSortedSS (P : Program) (w : World) : List V → Hp → VK → Prop := fun vs H Q => ∃ (a : Addr) (ks : List Str), vs = [.ref a] ∧ H a = some (SetSO P w a ks) ∧ ks.length < 64 ∧
  ∀ (ys : List Str) (p : Addr), ys.Perm ks → sortedS ys = true → H p = none → Q (.ref p) (upd H p (.lst (ys.map V.str)))
theorem cr_sortedSS (hc : X.calm = true) : CallR X (.builtin "sorted") (rSortedSS X.prog X.w) := by
  intro pins s σ H vs us Q I r h
  obtain ⟨a, ks, rfl, ha, few, q⟩ := h
  rw [Vals.ref1 r]
  have S : SetS X.prog X.w s.heap a ks := (I.hok a _ ha).1
  refine setS_sorted S (I.ok.hd hc) few fun s' p out c ys k g o hp at_ r1 p1 o1 => ?_
  obtain ⟨h', g', d', t', os'⟩ := s'
  obtain rfl : g' = s.gens := g
  obtain rfl : os' = s.os := o
  have new : H p = none := I.hok.fresh hp
  have len : (ys.map V.str).length ≤ sizeLine := by
    rw [List.length_map, p1.length_eq]
    exact small64 few
  have J : Inv X pins σ (upd H p (.lst (ys.map V.str))) { s with heap := h', gens := s.gens, drawn := d', toks := t' } :=
    I.call (ch := []) (Un.laid k hp new) (I.hok.laid k hp ⟨len, out.toList, c, vals_of_strs r1, at_⟩) I.bare (fun _ z => nomatch z)
  exact ⟨.ref p, _, J, rfl, q ys p p1 o1 new⟩
end
end L2

set_option maxRecDepth 100000
set_option maxHeartbeats 8000000
namespace PyProof.Rows
open PySem PySem.Spec
open PySem.AutoSeq1 in
theorem extend_tup (l : Addr) (items : Array Value) (n : Nat) (b : Addr) (items2 : Array Value) (short : ¬(!items.isEmpty && Builtin.List.listTooLong (items.size + items2.size)) = true) (z1 : items.size ≤ sizeLine) (z2 : items.size + items2.size ≤ sizeLine + 1) :
    Meets (Builtin.«list.extend» ⟨[.ref l, .ref b], []⟩) (fun _ R s => s.heap.get? l = some { cls := .type "list", dict := none, data := .seq items n, slots := #[] } ∧ IsTup s.heap b items2 ∧ R (.ok (.ret Value.none)) { s with heap := s.heap.update l (Obj.mapSeq fun x => x ++ items2), toks := s.toks }) :=
  .of_wp fun prog w A R s h => by
    obtain ⟨hp, g, d, tk, os⟩ := s
    obtain ⟨hl, ⟨o, hb, hc, n2, hd⟩, h⟩ := h
    obtain ⟨oc, od, dt, sl⟩ := o
    dsimp only at hc hd
    subst hc hd
    have i1 := idx_int
    have i2 := sub_tuple_tuple
    have i3 := sub_list_list
    have i4 := sub_tuple_list
    have i5 := sub_list_tuple
    have big : (items ++ items2).size ≤ sizeLine + 1 := by
      rw [Array.size_append]
      exact z2
    wp_walk using (wpAny_updateSeq hl rfl (hz := z1) (_hz' := big)), wpAny_loadPart' hl, wpAny_loadPart' hb
    exact ⟨_, rfl, h⟩
end PyProof.Rows
namespace L2
open PySem PySem.Spec PyProof.Rows
/-- xs.extend(t), t a tuple -/
def rExtendT (K : PySem.W.Frag) : V → List V → Hp → VK → Prop := fun x vs H Q => ∃ l b xs zs, x = .ref l ∧ vs = [.ref b] ∧ H l = some (.lst xs) ∧ SqT K H b zs ∧ xs.length + zs.length ≤ sizeLine ∧ Q .non (upd H l (.lst (xs ++ zs)))
theorem mt_extendT {X : Cx} : MtR X "list.extend" (rExtendT X.K) := by
  intro pins s σ H x vs v us Q I rx rv h
  obtain ⟨l, b, xs, zs, rfl, rfl, hl, hb, hz, q⟩ := h
  obtain rfl : v = Value.ref l := rx
  obtain ⟨u, rfl, ru⟩ := rv.one
  obtain rfl : u = Value.ref b := ru
  obtain ⟨z, its, n, r, ln, e⟩ := I.lstM hl
  obtain ⟨its2, r2, t2, _⟩ := I.tuple hb
  have l2 := r2.length
  have sz : its.toArray.size + its2.toArray.size ≤ sizeLine := by
    rw [List.size_toArray, List.size_toArray]
    omega
  have short : ¬ (!its.toArray.isEmpty && Builtin.List.listTooLong (its.toArray.size + its2.toArray.size)) = true := by
    rw [notLongL sz, Bool.and_false]
    exact Bool.false_ne_true
  refine call_meets F.slot_list_extend ⟨_, e, rfl⟩ F.entry_list_extend (F.args_list_extend_2 _ _) (extend_tup l its.toArray n b its2.toArray short (by rw [List.size_toArray]; omega) (by omega)) ⟨e, t2, ?_⟩
  refine ⟨.non, _, I.lset (its' := its ++ its2) hl e (by simp) (r.append r2) ?_, rfl, q⟩
  rw [List.length_append]
  omega
end L2

set_option maxRecDepth 100000
set_option maxHeartbeats 4000000
namespace L2
open PySem PySem.Spec PyProof.Rows
theorem swd_true {kx vx : Expr} {gs : List Comprehension} {scope : Scope} {pos py : Pos} {y : Str} {l : Nat} {env : Env} (fk : env.scope.kind = .function) (hy : env.scope.names.lookup y = some .local) (line : (py.line == pos.line) = true)
    (out : (scope.names.any fun (n, k) => n == y && (k == .local || k == .cell)) = false) : swapsWith (.DictComp kx vx gs scope pos) (some (.Name y py)) l env = pure true := by
  have k1 : env.kindOf y = some .local := hy
  have k2 : env.blockKind = .function := by
    unfold Env.blockKind
    rw [fk]
    rfl
  unfold swapsWith
  simp only [k2, k1, out, Expr.pos, line]
  rfl
/-- n = {k: v for ..} -/
theorem ps_setDc {X : Cx} {i : Nat} {y : Str} {py : Pos} {kx vx tg iter : Expr} {ifs : List Expr} {scope : Scope} {own : List (Str × Nat)} {pos spos : Pos} {wi : TI} {g : TG} {tt : TT} {tk tv : TE} (hc : X.calm = true) (hN : X.N.Nodup) (hy : X.N[i]? = some y) (hyl : X.env.scope.names.lookup y = some .local)
    (used : swapsWith (.DictComp kx vx [⟨tg, iter, ifs, 0⟩] scope pos) (some (.Name y py)) spos.line X.env = pure true) (hi : PI X tg iter wi) (ok : BlkOk X.N X.env.scope scope own)
    (hg : ∀ (s : Shared) (H : Hp) (C : Addr) (cl : List (Str × Addr)) (fp : List Addr), PG (X.blk s H scope (compEnvC scope cl C X.env) fp) tg g) (ht : ∀ (s : Shared) (H : Hp) (C : Addr) (cl : List (Str × Addr)) (fp : List Addr), PTs (X.blk s H scope (compEnvC scope cl C X.env) fp) ifs tt)
    (hk : ∀ (s : Shared) (H : Hp) (C : Addr) (cl : List (Str × Addr)) (fp : List Addr), PE (X.blk s H scope (compEnvC scope cl C X.env) fp) kx tk)
    (he : ∀ (s : Shared) (H : Hp) (C : Addr) (cl : List (Str × Addr)) (fp : List Addr), PE (X.blk s H scope (compEnvC scope cl C X.env) fp) vx tv) (hs : ∀ x, foldedSetIterable iter X.env x = pure x := by intro _; rfl) :
    PS X (.Assign [.Name y py] (.DictComp kx vx [⟨tg, iter, ifs, 0⟩] scope pos) spos) (tAsg (tDc wi g tt tk tv (own.map (·.2))) (gName i)) := by
  refine ⟨fun pins s σ H D I h => ?_⟩
  have run := dc_core (use := some (assign (.Name y py) X.env)) (Qf := fun _ s' => SP X pins D .next s') (pos := pos) (pos' := firstIterPos [⟨tg, iter, ifs, 0⟩] pos) (scope := scope) (Q := fun x H1 => gName i x σ H1 D.nx) hc hN I hi ok hg ht hk he hs h fun L C s1 m H1 I1 q ns fp => ?_
  · rw [exec_Assign_Name_used _ _ _ _ used]
    refine wpAny_bind (wpAny_standAt (wpAny_bind ?_))
    refine wpAny_bind (m := comprehension (.DictComp kx vx [⟨tg, iter, ifs, 0⟩] scope pos) scope X.env (firstIterPos [⟨tg, iter, ifs, 0⟩] pos) newDict false (eval iter X.env) (some (assign (.Name y py) X.env))) ?_
    exact (thn run fun _ s' hq => wpAny_pure (wpAny_pure hq))
  · show wpAny _ _ (assign (.Name y py) X.env (.ref L)) _ _ _
    refine wpAny_assign_Name (store_ok2 (v := V.ref L) I1 hN hy (.inl hyl) rfl (fun s2 I2 ⟨a, sb, ha⟩ => ?_) (.inr hyl))
    obtain ⟨f0, f1, f2, f3, f4, f5⟩ := fp
    have ne : C ≠ a := by
      rcases ha with z | z
      · rw [z]
        exact f1
      · exact fun e => f4 y a z e.symm
    exact ⟨m, ns.sameBut sb ne, fun h3 sb3 => ⟨_, H1, I2.turned (t' := s2.toks) (fun b o hb e => (sb3.2 b hb).trans e) f0 f1 f3 f4 f5, q⟩⟩
/-- {k: v for ..} over a walk -/
theorem dc_it {J : It} {n : Nat} {G : Hp → Prop} {Y : Nat → Hp → V → Hp → Prop} (w : Walk J n G Y) {g : TG} {tt : TT} {tk tv : TE} {vs : List Nat} {σ : St} {H1 : Hp} {D : Addr} {Qd : Hp → Prop} (Pv : Nat → Hp → Prop) (begin_ : Pv 0 (upd H1 D (.dK []))) (good : ∀ i H, i ≤ n → Pv i H → G H)
    (turn : ∀ i x H H', i < n → Pv i H → Y i H x H' → g x (wipe σ vs) H' fun σ2 H2 => wipe σ2 vs = wipe σ vs ∧ tt σ2 H2 fun b H3 =>
      if b = true then tk σ2 H3 fun y H4 => tv σ2 H4 fun z H5 => ∃ kvs k, y = kV k ∧ H5 D = some (.dK kvs) ∧ kvs.length < sizeLine ∧ Pv (i + 1) (upd H5 D (.dK (putK kvs k z))) else Pv (i + 1) H3) (done : ∀ H, Pv n H → Qd H) :
    ∃ W : Nat → Nat → Hp → Prop, (∃ m, W 0 m (upd H1 D (.dK []))) ∧ ∀ i m H, W i m H →
      (J.stop i H ∧ Qd H) ∨ (J.go i H ∧ ∃ Nx : Hp → Prop, (∀ H', Nx H' → ∃ m', m' < m ∧ W (i + 1) m' H') ∧ ∀ x H', J.yld i H x H' → g x (wipe σ vs) H' fun σ2 H2 => wipe σ2 vs = wipe σ vs ∧ tt σ2 H2 fun b H3 =>
        if b = true then tk σ2 H3 fun y H4 => tv σ2 H4 fun z H5 => ∃ kvs k, y = kV k ∧ H5 D = some (.dK kvs) ∧ kvs.length < sizeLine ∧ Nx (upd H5 D (.dK (putK kvs k z))) else Nx H3) := by
  refine ⟨fun i m H => m = n - i ∧ i ≤ n ∧ Pv i H, ⟨_, rfl, Nat.zero_le _, begin_⟩, fun i m H z => ?_⟩
  obtain ⟨rfl, hi, p⟩ := z
  rcases Nat.lt_or_ge i n with lt | ge
  · exact .inr ⟨w.goes i H lt (good i H hi p), Pv (i + 1), fun H' p' => ⟨_, by omega, rfl, lt, p'⟩, fun x H' y => turn i x H H' lt p (w.yields i H x H' lt (good i H hi p) y)⟩
  · obtain rfl : i = n := by omega
    exact .inl ⟨w.stops H (good i H hi p), done H p⟩
end L2

set_option maxRecDepth 100000
namespace L2
open PySem PySem.Spec PyProof.Rows
/-! ### xs[::e], e one or minus one -/
theorem pick_one (xs : List Value) : slicePick xs.toArray none none (some 1) = xs.toArray := by
  rw [show slicePick xs.toArray none none (some 1) = slicePick xs.toArray none none none from rfl, slicePick_cut, HT.sIx_none, HT.sIx_none, List.drop_zero, Nat.sub_zero, List.take_length]
section
variable {X : Cx}
def tStepL (K : PySem.W.Frag) (te ts : TE) : TE := fun σ H Q => te σ H fun x H1 => tPart ts σ H1 fun o H2 => ∃ a xs st, x = .ref a ∧ o = some st ∧ (st = 1 ∨ st = -1) ∧ SqL K H2 a xs ∧ ∀ p, H2 p = none → Q (.ref p) (upd H2 p (.lst (if st = 1 then xs else xs.reverse)))
theorem pe_stepL {e se : Expr} {te ts : TE} {p3 pos : Pos} (he : PE X e te) (hs : PE X se ts) : PE X (.Subscript e (.Slice none none (some se) p3) pos) (tStepL X.K te ts) := by
  refine ⟨fun pins s σ H Q I h => ?_⟩
  refine Subscript_ (thn (he.run pins s σ H _ I h) fun v s1 ⟨x, H1, I1, r1, q1⟩ => ?_)
  have hst : PO X (some se) (tPart ts) := po_some hs
  refine wpAny_Slice (thn (po_none.run pins s1 σ H1 (fun o H2 => o = none ∧ H2 = H1) I1 ⟨rfl, rfl⟩) fun vl s2 ⟨l, H2, I2, pl, el, e2⟩ => ?_)
  subst el e2
  refine thn (po_none.run pins s2 σ H2 (fun o H3 => o = none ∧ H3 = H2) I2 ⟨rfl, rfl⟩) fun vu s3 ⟨u, H3, I3, pu, eu, e3⟩ => ?_
  subst eu e3
  refine thn (hst.run pins s3 σ H3 _ I3 q1) fun vs s4 ⟨o, H4, I4, ps, a, xs, st, ex, eo, hst1, hx, q⟩ => ?_
  subst ex eo
  cases r1
  have I5 : Inv X pins σ H4 { s4 with heap := s4.heap.push { cls := .type "slice", data := .fields #[vl, vu, vs] } } := I4.kept (t' := s4.toks) fun b ob q => Heap.get?_push_of_some _ q
  obtain ⟨its, r, ht, hz⟩ := I5.list hx
  have hlen := r.length
  show wpAny (model X.prog X.w) X.A (subscriptTail e (.Slice none none (some se) p3) (.ref a) (.ref s4.heap.objs.size)) (EP X pins σ Q) X.xe { s4 with heap := s4.heap.push { cls := .type "slice", data := .fields #[vl, vu, vs] } }
  refine tail_any (ops := [.ref a, .ref s4.heap.objs.size]) ht.isList.typeIs (PySem.slot_list_getitem.lookup) ?_ (by with_unfolding_all rfl)
  refine wpAny_getItem_list_slice ht.isList (Heap.IsSliceOf.new _ vl vu vs) pl pu ps (by rcases hst1 with rfl | rfl <;> decide) ?_ (by rw [List.size_toArray]; omega)
  rcases hst1 with rfl | rfl
  · rw [pick_one]
    refine ⟨.ref _, _, I5.laid (t' := s4.toks) (o := .lst xs) (fun b ob q => Heap.get?_push_of_some _ q) (Nat.le_refl _) ?_, rfl, q _ (I5.hok.fresh (Nat.le_refl _))⟩
    exact ⟨hz, _, 0, r, Heap.get?_push_size _ rfl⟩
  · rw [PySem.W.krv_pick]
    refine ⟨.ref _, _, I5.laid (t' := s4.toks) (o := .lst xs.reverse) (fun b ob q => Heap.get?_push_of_some _ q) (Nat.le_refl _) ?_, rfl, q _ (I5.hok.fresh (Nat.le_refl _))⟩
    exact ⟨by rw [List.length_reverse]; exact hz, _, 0, r.reverse, Heap.get?_push_size _ rfl⟩
end
end L2

namespace My
open PySem
/-- the number below 2 ^ m whose bit i is f i -/
def IsB (x : Nat) (m : Nat) (f : Nat → Bool) : Prop := ∀ i, x.testBit i = (decide (i < m) && f i)
theorem IsB.xor {x y m : Nat} {f g : Nat → Bool} (h : IsB x m f) (k : IsB y m g) : IsB (x ^^^ y) m (fun i => f i != g i) := fun i => by
  rw [Nat.testBit_xor, h i, k i]
  show _ = (decide (i < m) && (f i != g i))
  cases decide (i < m) <;> cases f i <;> cases g i <;> rfl
theorem IsB.and {x y m : Nat} {f g : Nat → Bool} (h : IsB x m f) (k : IsB y m g) : IsB (x &&& y) m (fun i => f i && g i) := fun i => by
  rw [Nat.testBit_and, h i, k i]
  show _ = (decide (i < m) && (f i && g i))
  cases decide (i < m) <;> cases f i <;> cases g i <;> rfl
theorem IsB.or {x y m : Nat} {f g : Nat → Bool} (h : IsB x m f) (k : IsB y m g) : IsB (x ||| y) m (fun i => f i || g i) := fun i => by
  rw [Nat.testBit_or, h i, k i]
  show _ = (decide (i < m) && (f i || g i))
  cases decide (i < m) <;> cases f i <;> cases g i <;> rfl
theorem IsB.congr {x m : Nat} {f g : Nat → Bool} (h : IsB x m f) (e : ∀ i, i < m → f i = g i) : IsB x m g := fun i => by
  rw [h i]
  by_cases c : i < m
  · rw [e i c]
  · rw [decide_eq_false c, Bool.false_and, Bool.false_and]
theorem IsB.zero (m : Nat) : IsB 0 m (fun _ => false) := fun i => by rw [Nat.zero_testBit, Bool.and_false]
theorem IsB.full (m : Nat) : IsB (2 ^ m - 1) m (fun _ => true) := fun i => by rw [Nat.testBit_two_pow_sub_one, Bool.and_true]
theorem IsB.lt {x m : Nat} {f : Nat → Bool} (h : IsB x m f) : x < 2 ^ m := Nat.lt_pow_two_of_testBit x fun i hi => by
  rw [h i, decide_eq_false (by omega), Bool.false_and]
theorem IsB.eq_iff {x y m : Nat} {f g : Nat → Bool} (h : IsB x m f) (k : IsB y m g) : x = y ↔ ∀ i, i < m → f i = g i :=
  ⟨fun e i hi => by
    have := h i
    rw [e, k i, decide_eq_true hi, Bool.true_and, Bool.true_and] at this
    exact this.symm,
   fun e => Nat.eq_of_testBit_eq fun i => by
    rw [h i, k i]
    by_cases c : i < m
    · rw [e i c]
    · rw [decide_eq_false c, Bool.false_and, Bool.false_and]⟩
theorem bx (a b : Nat) : Builtin.bitXor (a : Int) (b : Int) = ((a ^^^ b : Nat) : Int) := by
  rw [Bits.bitXor_pp (Int.natCast_nonneg _) (Int.natCast_nonneg _), Int.toNat_natCast, Int.toNat_natCast]
theorem bo (a b : Nat) : Builtin.bitOr (a : Int) (b : Int) = ((a ||| b : Nat) : Int) := by
  rw [L2.bitOr_nn (Int.natCast_nonneg _) (Int.natCast_nonneg _), Int.toNat_natCast, Int.toNat_natCast]
/-- numbers with any bits -/
theorem num_of (f : Nat → Bool) : ∀ n : Nat, ∃ r, r < 2 ^ n ∧ ∀ k, k < n → r.testBit k = f k
  | 0 => ⟨0, by decide, fun _ h => absurd h (Nat.not_lt_zero _)⟩
  | n + 1 => by
    obtain ⟨r, hr, hb⟩ := num_of f n
    have e2 : 2 ^ (n + 1) = 2 ^ n + 2 ^ n := by rw [Nat.pow_succ]; omega
    cases hf : f n with
    | false =>
      refine ⟨r, by omega, fun k hk => ?_⟩
      rcases Nat.lt_succ_iff_lt_or_eq.mp hk with h | rfl
      · exact hb k h
      · rw [hf]; exact Nat.testBit_lt_two_pow hr
    | true =>
      refine ⟨2 ^ n + r, by omega, fun k hk => ?_⟩
      rcases Nat.lt_succ_iff_lt_or_eq.mp hk with h | rfl
      · rw [Nat.testBit_two_pow_add_gt h]; exact hb k h
      · rw [hf, Nat.testBit_two_pow_add_eq, Nat.testBit_lt_two_pow hr]; rfl
/-- the column's first rows -/
theorem col_first (p : Nat) : IsB ((2 ^ 2 ^ p - 1) * 2 ^ 2 ^ p) (2 ^ (p + 1)) (fun i => i.testBit p) := fun i => by
  rw [← Nat.shiftLeft_eq, Nat.testBit_shiftLeft, Nat.testBit_two_pow_sub_one]
  show _ = (decide (i < 2 ^ (p + 1)) && i.testBit p)
  have e2 : 2 ^ (p + 1) = 2 ^ p + 2 ^ p := by rw [Nat.pow_succ]; omega
  have pos : 0 < 2 ^ p := Nat.two_pow_pos p
  by_cases h : i < 2 ^ (p + 1)
  · by_cases h1 : i < 2 ^ p
    · rw [Nat.testBit_lt_two_pow h1, Bool.and_false, decide_eq_false (by omega), Bool.false_and]
    · obtain ⟨j, rfl⟩ : ∃ j, i = 2 ^ p + j := ⟨i - 2 ^ p, by omega⟩
      rw [Nat.testBit_two_pow_add_eq, Nat.testBit_lt_two_pow (by omega : j < 2 ^ p), decide_eq_true h, decide_eq_true (by omega), decide_eq_true (by omega)]
      rfl
  · rw [decide_eq_false h, Bool.false_and, decide_eq_false (by omega : ¬ (i - 2 ^ p < 2 ^ p)), Bool.and_false]
theorem col_more {x p q : Nat} (hq : p < q) (h : IsB x (2 ^ q) (fun i => i.testBit p)) : IsB (x ||| x * 2 ^ 2 ^ q) (2 ^ (q + 1)) (fun i => i.testBit p) := fun i => by
  have e2 : 2 ^ (q + 1) = 2 ^ q + 2 ^ q := by rw [Nat.pow_succ]; omega
  rw [Nat.testBit_or, ← Nat.shiftLeft_eq, Nat.testBit_shiftLeft, h i, h (i - 2 ^ q)]
  show ((decide (i < 2 ^ q) && i.testBit p) || (decide (i ≥ 2 ^ q) && (decide (i - 2 ^ q < 2 ^ q) && (i - 2 ^ q).testBit p))) = (decide (i < 2 ^ (q + 1)) && i.testBit p)
  by_cases h1 : i < 2 ^ q
  · rw [decide_eq_true h1, decide_eq_true (by omega : i < 2 ^ (q + 1)), decide_eq_false (by omega : ¬ (i ≥ 2 ^ q)), Bool.false_and, Bool.or_false]
  · obtain ⟨j, rfl⟩ : ∃ j, i = 2 ^ q + j := ⟨i - 2 ^ q, by omega⟩
    rw [decide_eq_false h1, Bool.false_and, Bool.false_or, decide_eq_true (by omega : 2 ^ q + j ≥ 2 ^ q), Bool.true_and, Nat.add_sub_cancel_left, Nat.testBit_two_pow_add_gt hq]
    by_cases h2 : j < 2 ^ q
    · rw [decide_eq_true h2, decide_eq_true (by omega : 2 ^ q + j < 2 ^ (q + 1))]
    · rw [decide_eq_false h2, decide_eq_false (by omega : ¬ (2 ^ q + j < 2 ^ (q + 1)))]
theorem bits_full (m : Nat) (hm : 0 < m) : Builtin.Int.intBits ((2 ^ m - 1 : Nat) : Int) = m := by
  unfold Builtin.Int.intBits
  have h2 : 2 ^ 1 ≤ 2 ^ m := Nat.pow_le_pow_right (by decide) hm
  have e : ((((2 ^ m - 1 : Nat) : Int)) == 0) = false := by
    rw [beq_eq_false_iff_ne]
    intro z
    have : (2 ^ m - 1 : Nat) = 0 := Int.ofNat.inj z
    omega
  rw [e]
  show ((2 ^ m - 1 : Nat) : Int).natAbs.log2 + 1 = m
  rw [Int.natAbs_natCast]
  have : (2 ^ m - 1).log2 = m - 1 := by
    rw [Nat.log2_eq_iff (by omega)]
    refine ⟨?_, by rw [Nat.sub_add_cancel hm]; omega⟩
    have : 2 ^ m = 2 * 2 ^ (m - 1) := by rw [← Nat.pow_succ']; congr 1; omega
    have pos : 0 < 2 ^ (m - 1) := Nat.two_pow_pos _
    omega
  omega
theorem bit_of (x r : Nat) : decide (Builtin.bitAnd ((x : Int) / 2 ^ r) 1 = 1) = x.testBit r := by
  have e : (x : Int) / 2 ^ r = ((x / 2 ^ r : Nat) : Int) := by rw [Int.natCast_ediv, Int.natCast_pow]; rfl
  rw [e, Nat.testBit_eq_decide_div_mod_eq]
  refine decide_eq_decide.mpr ?_
  have : Builtin.bitAnd ((x / 2 ^ r : Nat) : Int) 1 = (((x / 2 ^ r) % 2 : Nat) : Int) := by
    rw [PyProof.Rows.bitAnd_m1]
    omega
  rw [this]
  omega
end My

set_option maxRecDepth 100000
set_option maxHeartbeats 4000000
namespace L2
open PySem PySem.Spec PyProof.Rows
/-! ### ==, !=, in, not in of data without dicts, whatever the texts -/
section
variable {X : Cx}
def rEqP (K : PySem.W.Frag) : R2 := fun x y H Q => ∃ d e, Dp K H x d ∧ Dp K H y e ∧ d.plain = true ∧ e.plain = true ∧ min d.depth e.depth ≤ 60 ∧ Q (.bl (PyData.eqv d e)) H
def rNeP (K : PySem.W.Frag) : R2 := fun x y H Q => ∃ d e, Dp K H x d ∧ Dp K H y e ∧ d.plain = true ∧ e.plain = true ∧ min d.depth e.depth ≤ 60 ∧ Q (.bl (!PyData.eqv d e)) H
theorem op_eqP (hu : X.A.units + 64 < cLine) : OpR X (compareOp .Eq) (rEqP X.K) := by
  intro pins s σ H x y v u Q I rx ry h
  obtain ⟨d, e, hd, he, sd, se, hm, q⟩ := h
  obtain ⟨as, r1⟩ := Dp.reads I d x v hd rx
  obtain ⟨bs, r2⟩ := Dp.reads I e y u he ry
  exact SeqAt.eq_plain r1 r2 sd se (by omega) ⟨.bl _, H, I, rfl, q⟩
theorem op_neP (hu : X.A.units + 64 < cLine) : OpR X (compareOp .NotEq) (rNeP X.K) := by
  intro pins s σ H x y v u Q I rx ry h
  obtain ⟨d, e, hd, he, sd, se, hm, q⟩ := h
  obtain ⟨as, r1⟩ := Dp.reads I d x v hd rx
  obtain ⟨bs, r2⟩ := Dp.reads I e y u he ry
  exact SeqAt.ne_plain r1 r2 sd se (by omega) ⟨.bl _, H, I, rfl, q⟩
def rInP (K : PySem.W.Frag) (neg : Bool) : R2 := fun x y H Q => ∃ (xs : List PyData) (d : PyData), (Dp K H y (.list xs) ∨ Dp K H y (.tuple xs)) ∧ Dp K H x d ∧ PyData.plainAll xs = true ∧ d.plain = true ∧ min (PyData.depthAll xs) d.depth ≤ 60 ∧
  Q (.bl (if neg then !(xs.any fun y => PyData.eqv y d) else xs.any fun y => PyData.eqv y d)) H
theorem op_inP (hu : X.A.units + 64 < cLine) : OpR X (compareOp .In) (rInP X.K false) := by
  intro pins s σ H x y v u Q I rx ry h
  obtain ⟨xs, d, hy, hd, sx, sd, hm, q⟩ := h
  obtain ⟨as, r1⟩ := Dp.reads I d x v hd rx
  rcases hy with hy | hy
  · obtain ⟨bs, r2⟩ := Dp.reads I _ y u hy ry
    exact SeqAt.in_list_data r2 r1 sx sd (by omega) ⟨.bl _, H, I, rfl, q⟩
  · obtain ⟨bs, r2⟩ := Dp.reads I _ y u hy ry
    exact SeqAt.in_tuple_data r2 r1 sx sd (by omega) ⟨.bl _, H, I, rfl, q⟩
theorem op_notInP (hu : X.A.units + 64 < cLine) : OpR X (compareOp .NotIn) (rInP X.K true) := by
  intro pins s σ H x y v u Q I rx ry h
  obtain ⟨xs, d, hy, hd, sx, sd, hm, q⟩ := h
  obtain ⟨as, r1⟩ := Dp.reads I d x v hd rx
  rcases hy with hy | hy
  · obtain ⟨bs, r2⟩ := Dp.reads I _ y u hy ry
    exact SeqAt.notIn_list_data r2 r1 sx sd (by omega) ⟨.bl _, H, I, rfl, q⟩
  · obtain ⟨bs, r2⟩ := Dp.reads I _ y u hy ry
    exact SeqAt.notIn_tuple_data r2 r1 sx sd (by omega) ⟨.bl _, H, I, rfl, q⟩
end
end L2
namespace My
open PySem PySem.Spec PyProof.Rows L2
/-! ### lists of texts as data -/
theorem dp_strs {K : PySem.W.Frag} {H : Hp} : ∀ ys : List Str, DpAll K H (ys.map V.str) (ys.map PyData.str)
  | [] => .nil
  | _ :: r => .cons (.str _) (dp_strs r)
theorem plain_strs : ∀ ys : List Str, PyData.plainAll (ys.map PyData.str) = true
  | [] => by simp [PyData.plainAll]
  | y :: r => by
    have := plain_strs r
    simp [PyData.plainAll, PyData.plain, this]
theorem depth_strs : ∀ ys : List Str, PyData.depthAll (ys.map PyData.str) = 0
  | [] => by simp [PyData.depthAll]
  | y :: r => by
    have := depth_strs r
    simp [PyData.depthAll, PyData.depth, this]
theorem plain_strsL (ys : List Str) : PyData.plain (.list (ys.map PyData.str)) = true := by
  simp only [PyData.plain]
  exact plain_strs ys
theorem depth_strsL (ys : List Str) : PyData.depth (.list (ys.map PyData.str)) = 1 := by
  simp only [PyData.depth, depth_strs]
theorem eqvAll_strs : ∀ xs ys : List Str, PyData.eqvAll (xs.map PyData.str) (ys.map PyData.str) = decide (xs = ys)
  | [], [] => by simp [PyData.eqvAll]
  | [], _ :: _ => by simp [PyData.eqvAll]
  | _ :: _, [] => by simp [PyData.eqvAll]
  | x :: xs, y :: ys => by
    have ih := eqvAll_strs xs ys
    rw [List.map_cons, List.map_cons, PyData.eqvAll, ih, PyData.eqv]
    by_cases h : x = y
    · subst h
      simp
    · have h2 : ¬ x :: xs = y :: ys := fun e => h (List.cons.inj e).1
      rw [decide_eq_false h2]
      simp [h]
theorem eqv_strs (xs ys : List Str) : PyData.eqv (.list (xs.map PyData.str)) (.list (ys.map PyData.str)) = decide (xs = ys) := by
  rw [PyData.eqv]
  exact eqvAll_strs xs ys
theorem eqv_nil (ys : List Str) : PyData.eqv (.list (ys.map PyData.str)) (.list []) = ys.isEmpty := by
  cases ys <;> simp [PyData.eqv, PyData.eqvAll]
theorem eqV_str (x y : Str) : eqV (.str x) (.str y) = decide (x = y) := by
  show (x == y) = _
  by_cases h : x = y
  · subst h
    simp
  · simp [h]
theorem inV_strs (z : Str) (ys : List Str) : inV (.str z) (ys.map V.str) = decide (z ∈ ys) := by
  unfold inV
  induction ys with
  | nil => rfl
  | cons y r ih =>
    rw [List.map_cons, List.any_cons, ih, eqV_str]
    by_cases h : y = z
    · subst h
      simp
    · have h1 : ¬ (z = y) := fun e => h e.symm
      simp [h, h1]
end My

set_option maxRecDepth 100000
set_option maxHeartbeats 4000000
namespace Dl
open PySem PySem.Spec PyProof.Rows L2 My
/-! ### what a step keeps -/
abbrev PD := PyData
class Edg (R : Hp → Hp → Prop) : Prop where
  refl : ∀ H, R H H
  trans : ∀ {H H1 H2 : Hp}, R H H1 → R H1 H2 → R H H2
  same : ∀ {H H1 : Hp}, Same H H1 → R H H1
  k : ∀ {H H1 : Hp} {a : Addr} {o : HO}, R H H1 → H a = some o → (∀ kv, o ≠ .dK kv) → H1 a = some o
instance : Edg Same := ⟨Same.refl, Same.trans, fun h => h, fun r h _ => r _ _ h⟩
/-- all but the dict at T -/
def Kd (T : Addr) (H H' : Hp) : Prop := ∀ b o, H b = some o → (b = T → ∀ kv, o ≠ .dK kv) → H' b = some o
instance (T : Addr) : Edg (Kd T) := ⟨fun _ _ _ h _ => h, fun a b c o h n => b c o (a c o h n) n, fun a b o h _ => a b o h, fun r h n => r _ _ h fun _ => n⟩
section
variable {R : Hp → Hp → Prop} [Edg R] {K : PySem.W.Frag} {H H1 H2 : Hp} {a p : Addr} {o : HO} {xs vs : List V} {ds es : List PD} {v : V} {d : PD}
theorem Edg.l (r : R H H1) (h : SqL K H a xs) : SqL K H1 a xs := by
  rcases h with (h | ⟨o, h⟩) | h
  · exact .inl (.inl (Edg.k r h fun _ e => nomatch e))
  · exact .inl (.inr ⟨o, Edg.k r h fun _ e => nomatch e⟩)
  · exact .inr h
theorem Edg.t (r : R H H1) (h : SqT K H a xs) : SqT K H1 a xs := by
  rcases h with (h | ⟨o, h⟩) | h
  · exact .inl (.inl (Edg.k r h fun _ e => nomatch e))
  · exact .inl (.inr ⟨o, Edg.k r h fun _ e => nomatch e⟩)
  · exact .inr h
mutual
theorem dp_go (el : ∀ a xs, SqL K H a xs → SqL K H1 a xs) (et : ∀ a xs, SqT K H a xs → SqT K H1 a xs) : ∀ (d : PD) (v : V), Dp K H v d → Dp K H1 v d
  | .none, _, h => by cases h; exact .non
  | .bool b, _, h => by cases h; exact .bl b
  | .int b, _, h => by cases h; exact .int b
  | .str b, _, h => by cases h; exact .str b
  | .list ds, _, h => by
    cases h with
    | lst s q => exact .lst (el _ _ s) (dpa_go el et ds _ q)
  | .tuple ds, _, h => by
    cases h with
    | tup s q => exact .tup (et _ _ s) (dpa_go el et ds _ q)
  | .dict _, _, h => by cases h
theorem dpa_go (el : ∀ a xs, SqL K H a xs → SqL K H1 a xs) (et : ∀ a xs, SqT K H a xs → SqT K H1 a xs) : ∀ (ds : List PD) (vs : List V), DpAll K H vs ds → DpAll K H1 vs ds
  | [], _, h => by cases h; exact .nil
  | d :: ds, _, h => by
    cases h with
    | cons h1 h2 => exact .cons (dp_go el et d _ h1) (dpa_go el et ds _ h2)
end
theorem dpk (r : R H H1) (h : Dp K H v d) : Dp K H1 v d := dp_go (fun _ _ => Edg.l r) (fun _ _ => Edg.t r) d v h
theorem dpak (r : R H H1) (h : DpAll K H vs ds) : DpAll K H1 vs ds := dpa_go (fun _ _ => Edg.l r) (fun _ _ => Edg.t r) ds vs h
/-! ### data without lists: kept by whatever keeps tuples -/
mutual
def nl : PD → Bool
  | .list _ => false
  | .dict _ => false
  | .tuple xs => nlA xs
  | _ => true
def nlA : List PD → Bool
  | [] => true
  | d :: ds => nl d && nlA ds
end
/-- all tuples are kept -/
def Tk (H H' : Hp) : Prop := ∀ b xs, H b = some (.tup xs) ∨ (∃ o, H b = some (.frz o (.tup xs))) → H' b = some (.tup xs) ∨ (∃ o, H' b = some (.frz o (.tup xs)))
theorem Tk.refl (H : Hp) : Tk H H := fun _ _ h => h
theorem Tk.trans (a : Tk H H1) (b : Tk H1 H2) : Tk H H2 := fun c xs h => b c xs (a c xs h)
theorem Tk.of (r : R H H1) : Tk H H1 := fun b xs h => h.elim (fun h => .inl (Edg.k r h fun _ e => nomatch e)) fun ⟨o, h⟩ => .inr ⟨o, Edg.k r h fun _ e => nomatch e⟩
theorem Tk.t (r : Tk H H1) (h : SqT K H a xs) : SqT K H1 a xs := by
  rcases h with h | h
  · exact .inl (r _ _ h)
  · exact .inr h
/-- a list, a dict is changed -/
theorem Tk.putL (h : H p = some (.lst xs)) : Tk H (upd H p o) := fun b ys e => by
  have n : b ≠ p := fun z => by
    subst z
    rcases e with e | ⟨_, e⟩ <;> (rw [h] at e; cases e)
  rw [upd_ne n]
  exact e
theorem Tk.putD {kv : List (Key × V)} (h : H p = some (.dK kv)) : Tk H (upd H p o) := fun b ys e => by
  have n : b ≠ p := fun z => by
    subst z
    rcases e with e | ⟨_, e⟩ <;> (rw [h] at e; cases e)
  rw [upd_ne n]
  exact e
mutual
theorem dp_tk (e : Tk H H1) : ∀ (d : PD) (v : V), nl d = true → Dp K H v d → Dp K H1 v d
  | .none, _, _, h => by cases h; exact .non
  | .bool b, _, _, h => by cases h; exact .bl b
  | .int b, _, _, h => by cases h; exact .int b
  | .str b, _, _, h => by cases h; exact .str b
  | .list ds, _, n, h => by unfold nl at n; cases n
  | .tuple ds, _, n, h => by
    unfold nl at n
    cases h with
    | tup s q => exact .tup (e.t s) (dpa_tk e ds _ n q)
  | .dict _, _, _, h => by cases h
theorem dpa_tk (e : Tk H H1) : ∀ (ds : List PD) (vs : List V), nlA ds = true → DpAll K H vs ds → DpAll K H1 vs ds
  | [], _, _, h => by cases h; exact .nil
  | d :: ds, _, n, h => by
    unfold nlA at n
    cases h with
    | cons h1 h2 => exact .cons (dp_tk e d _ (Bool.and_eq_true_iff.mp n).1 h1) (dpa_tk e ds _ (Bool.and_eq_true_iff.mp n).2 h2)
end
theorem nlA_iff : ∀ {ds : List PD}, nlA ds = true ↔ ∀ d ∈ ds, nl d = true
  | [] => by simp [nlA]
  | d :: ds => by
    have ih := nlA_iff (ds := ds)
    simp [nlA, ih]
theorem nlA_map {α : Type} {enc : α → PD} {xs : List α} (h : ∀ x, nl (enc x) = true) : nlA (xs.map enc) = true := nlA_iff.mpr fun d hd => by
  obtain ⟨x, _, rfl⟩ := List.mem_map.mp hd
  exact h x
/-! ### lists of data -/
theorem dpa_len (h : DpAll K H vs ds) : vs.length = ds.length := by
  induction ds generalizing vs with
  | nil => cases h; rfl
  | cons d ds ih =>
    cases h with
    | cons _ h2 => exact congrArg Nat.succ (ih h2)
theorem dpa_get {i : Nat} (h : DpAll K H vs ds) (e : ds[i]? = some d) : ∃ v, vs[i]? = some v ∧ Dp K H v d := by
  induction ds generalizing vs i with
  | nil => cases e
  | cons x ds ih =>
    cases h with
    | cons h1 h2 =>
      cases i with
      | zero =>
        cases e
        exact ⟨_, rfl, h1⟩
      | succ i =>
        obtain ⟨w, q1, q2⟩ := ih h2 e
        exact ⟨w, q1, q2⟩
theorem dpa_get' {i : Nat} (h : DpAll K H vs ds) (e : vs[i]? = some v) : ∃ d, ds[i]? = some d ∧ Dp K H v d := by
  have hi : i < ds.length := by
    rw [← dpa_len h]
    exact (List.getElem?_eq_some_iff.mp e).1
  obtain ⟨w, e1, h1⟩ := dpa_get h (List.getElem?_eq_getElem hi)
  rw [e] at e1
  cases e1
  exact ⟨_, List.getElem?_eq_getElem hi, h1⟩
theorem dpa_app {ws : List V} (h : DpAll K H vs ds) (h2 : DpAll K H ws es) : DpAll K H (vs ++ ws) (ds ++ es) := by
  induction ds generalizing vs with
  | nil => cases h; exact h2
  | cons d ds ih =>
    cases h with
    | cons h1 h3 => exact .cons h1 (ih h3)
theorem dpa_take (n : Nat) (h : DpAll K H vs ds) : DpAll K H (vs.take n) (ds.take n) := by
  induction ds generalizing vs n with
  | nil => cases h; rw [List.take_nil, List.take_nil]; exact .nil
  | cons d ds ih =>
    cases h with
    | cons h1 h3 =>
      cases n with
      | zero => exact .nil
      | succ n => exact .cons h1 (ih n h3)
theorem dpa_drop (n : Nat) (h : DpAll K H vs ds) : DpAll K H (vs.drop n) (ds.drop n) := by
  induction ds generalizing vs n with
  | nil => cases h; rw [List.drop_nil, List.drop_nil]; exact .nil
  | cons d ds ih =>
    cases h with
    | cons h1 h3 =>
      cases n with
      | zero => exact .cons h1 h3
      | succ n => exact ih n h3
theorem dpa_set {i : Nat} (h : DpAll K H vs ds) (hv : Dp K H v d) : DpAll K H (vs.set i v) (ds.set i d) := by
  induction ds generalizing vs i with
  | nil => cases h; exact .nil
  | cons x ds ih =>
    cases h with
    | cons h1 h3 =>
      cases i with
      | zero => exact .cons hv h3
      | succ i => exact .cons h1 (ih h3)
theorem dpa_rev (h : DpAll K H vs ds) : DpAll K H vs.reverse ds.reverse := by
  induction ds generalizing vs with
  | nil => cases h; exact .nil
  | cons d ds ih =>
    cases h with
    | cons h1 h3 =>
      rw [List.reverse_cons, List.reverse_cons]
      exact dpa_app (ih h3) (.cons h1 .nil)
theorem dpa_mem (h : DpAll K H vs ds) (m : v ∈ vs) : ∃ d ∈ ds, Dp K H v d := by
  obtain ⟨i, hi, rfl⟩ := List.mem_iff_getElem.mp m
  obtain ⟨d, e, q⟩ := dpa_get' h (List.getElem?_eq_getElem hi)
  exact ⟨d, List.mem_of_getElem? e, q⟩
theorem dpa_bools {bs : List Bool} (h : DpAll K H vs (bs.map .bool)) : vs = bs.map V.bl := by
  induction bs generalizing vs with
  | nil => cases h; rfl
  | cons d ds ih =>
    cases h with
    | cons h1 h3 =>
      cases h1
      rw [ih h3]
      rfl
theorem dpa_ints {bs : List Int} (h : DpAll K H vs (bs.map .int)) : vs = bs.map V.int := by
  induction bs generalizing vs with
  | nil => cases h; rfl
  | cons d ds ih =>
    cases h with
    | cons h1 h3 =>
      cases h1
      rw [ih h3]
      rfl
theorem dpa_strs {bs : List Str} (h : DpAll K H vs (bs.map .str)) : vs = bs.map V.str := by
  induction bs generalizing vs with
  | nil => cases h; rfl
  | cons d ds ih =>
    cases h with
    | cons h1 h3 =>
      cases h1
      rw [ih h3]
      rfl
theorem dp_strL {ys : List Str} (h : SqL K H a (ys.map V.str)) : Dp K H (.ref a) (.list (ys.map .str)) := .lst h (dp_strs ys)
theorem dp_tupI (h : Dp K H v (.tuple ds)) : ∃ a xs, v = .ref a ∧ SqT K H a xs ∧ DpAll K H xs ds := by
  cases h with
  | tup s q => exact ⟨_, _, rfl, s, q⟩
theorem dp_lstI (h : Dp K H v (.list ds)) : ∃ a xs, v = .ref a ∧ SqL K H a xs ∧ DpAll K H xs ds := by
  cases h with
  | lst s q => exact ⟨_, _, rfl, s, q⟩
/-- a list of one's own: at a, of vs that stand for ds -/
def Lt (K : PySem.W.Frag) (H : Hp) (a : Addr) (ds : List PD) : Prop := ∃ vs, H a = some (.lst vs) ∧ DpAll K H vs ds
theorem Lt.dp (h : Lt K H a ds) : Dp K H (.ref a) (.list ds) := by
  obtain ⟨vs, e, q⟩ := h
  exact .lst (SqL.of e) q
theorem ltk (r : R H H1) (h : Lt K H a ds) : Lt K H1 a ds := by
  obtain ⟨vs, e, q⟩ := h
  exact ⟨vs, Edg.k r e (fun _ z => nomatch z), dpak r q⟩
/-- an object that H doesn't know may change -/
theorem same_mut (e : Same H H1) (h : H p = none) : Same H (upd H1 p o) := fun b u q => by
  rw [upd_ne (ne_of_none q h)]
  exact e _ _ q
theorem edg_mut {T : Addr} (e : Kd T H H1) (h : H p = none) : Kd T H (upd H1 p o) := fun b u q n => by
  rw [upd_ne (ne_of_none q h)]
  exact e _ _ q n
theorem same_newD (h : H p = none) (o : HO) : Same H (upd H p o) := same_mut (Same.refl H) h
theorem szl {n : Nat} (h : n ≤ 100000) : n ≤ sizeLine := Nat.le_trans h (by decide)
theorem szs {n : Nat} (h : n < 100000) : n < sizeLine := Nat.lt_of_lt_of_le h (by decide)
theorem iteE {c : Prop} [Decidable c] {α : Type} {a b : α} (h : c) : (if c then a else b) = a := if_pos h
end
/-! ### what evaluates to what data -/
def DE (R : Hp → Hp → Prop) (K : PySem.W.Frag) (te : TE) (σ : L2.St) (H : Hp) (d : PD) : Prop := ∀ H1, R H H1 → ∀ Q : VK, (∀ v H2, Same H1 H2 → Dp K H2 v d → Q v H2) → te σ H1 Q
/-- a new list -/
def LE (R : Hp → Hp → Prop) (K : PySem.W.Frag) (te : TE) (σ : L2.St) (H : Hp) (ds : List PD) : Prop := ∀ H1, R H H1 → ∀ Q : VK, (∀ a H2, H1 a = none → Same H1 H2 → Lt K H2 a ds → Q (.ref a) H2) → te σ H1 Q
def DA (R : Hp → Hp → Prop) (K : PySem.W.Frag) (ta : TA) (σ : L2.St) (H : Hp) (ds : List PD) : Prop := ∀ H1, R H H1 → ∀ Q : List V → Hp → Prop, (∀ vs H2, Same H1 H2 → DpAll K H2 vs ds → Q vs H2) → ta σ H1 Q
def BT (R : Hp → Hp → Prop) (K : PySem.W.Frag) (tt : TT) (σ : L2.St) (H : Hp) (b : Bool) : Prop := ∀ H1, R H H1 → ∀ Q : Bool → Hp → Prop, (∀ H2, Same H1 H2 → Q b H2) → tt σ H1 Q
def DO (R : Hp → Hp → Prop) (K : PySem.W.Frag) (to : TO) (σ : L2.St) (H : Hp) (o : Option Int) : Prop := ∀ H1, R H H1 → ∀ Q : Option Int → Hp → Prop, (∀ H2, Same H1 H2 → Q o H2) → to σ H1 Q
/-- an operation on values, on data -/
def RD (K : PySem.W.Frag) (r : R2) (d e f : PD) : Prop := ∀ H x y, Dp K H x d → Dp K H y e → ∀ Q : VK, (∀ z H2, Same H H2 → Dp K H2 z f → Q z H2) → r x y H Q
def RL (K : PySem.W.Frag) (r : R2) (d e : PD) (fs : List PD) : Prop := ∀ H x y, Dp K H x d → Dp K H y e → ∀ Q : VK, (∀ a H2, H a = none → Same H H2 → Lt K H2 a fs → Q (.ref a) H2) → r x y H Q
/-- a call on values, on data -/
def RC (K : PySem.W.Frag) (r : List V → Hp → VK → Prop) (ds : List PD) (f : PD) : Prop := ∀ H vs, DpAll K H vs ds → ∀ Q : VK, (∀ z H2, Same H H2 → Dp K H2 z f → Q z H2) → r vs H Q
def RCL (K : PySem.W.Frag) (r : List V → Hp → VK → Prop) (ds fs : List PD) : Prop := ∀ H vs, DpAll K H vs ds → ∀ Q : VK, (∀ a H2, H a = none → Same H H2 → Lt K H2 a fs → Q (.ref a) H2) → r vs H Q
section
variable {R : Hp → Hp → Prop} [Edg R] {K : PySem.W.Frag} {σ : L2.St} {H H' : Hp} {ta tb te tx : TE} {t u : TT} {x y z v : V} {r : R2} {d e f : PD} {ds es fs : List PD} {b c : Bool} {a : Addr}
theorem DE.mono (g : R H H') (h : DE R K te σ H d) : DE R K te σ H' d := fun H1 q => h H1 (Edg.trans g q)
theorem BT.mono (g : R H H') (h : BT R K t σ H b) : BT R K t σ H' b := fun H1 q => h H1 (Edg.trans g q)
theorem de_var {i : Nat} (h : σ[i]? = some (some v)) (hd : Dp K H v d) : DE R K (tVar i) σ H d := fun H1 g _ q => ⟨v, h, q v H1 (Same.refl _) (dpk g hd)⟩
theorem de_int {i : Int} : DE R K (tC (.int i)) σ H (.int i) := fun H1 _ _ q => q _ H1 (Same.refl _) (.int i)
theorem de_str {i : Str} : DE R K (tC (.str i)) σ H (.str i) := fun H1 _ _ q => q _ H1 (Same.refl _) (.str i)
theorem de_bl {i : Bool} : DE R K (tC (.bl i)) σ H (.bool i) := fun H1 _ _ q => q _ H1 (Same.refl _) (.bl i)
theorem de_non : DE R K (tC .non) σ H .none := fun H1 _ _ q => q _ H1 (Same.refl _) .non
theorem de_con (h : ∀ H, Dp K H v d) : DE R K (tC v) σ H d := fun H1 _ _ q => q _ H1 (Same.refl _) (h _)
theorem de_le (h : LE R K te σ H ds) : DE R K te σ H (.list ds) := fun H1 g _ q => h H1 g _ fun a H2 _ s l => q _ H2 s l.dp
theorem de_is (h : DE R K te σ H d) (q : d = e) : DE R K te σ H e := q ▸ h
theorem le_is (h : LE R K te σ H ds) (q : ds = es) : LE R K te σ H es := q ▸ h
theorem bt_is (h : BT R K t σ H b) (q : b = c) : BT R K t σ H c := q ▸ h
theorem da_nil : DA R K tNil σ H [] := fun H1 _ _ q => q [] H1 (Same.refl _) .nil
theorem da_cons {tr : TA} (h : DE R K te σ H d) (hr : DA R K tr σ H ds) : DA R K (tCons te tr) σ H (d :: ds) := fun H1 g _ q =>
  h H1 g _ fun v H2 s2 h2 => hr H2 (Edg.trans g (Edg.same s2)) _ fun vs H3 s3 h3 => q _ H3 (s2.trans s3) (.cons (dpk s3 h2) h3)
theorem de_tup {ta : TA} (h : DA R K ta σ H ds) (hl : ds.length ≤ 100000) : DE R K (tTup ta) σ H (.tuple ds) := fun H1 g _ q =>
  h H1 g _ fun vs H2 s2 h2 => ⟨szl (by rw [dpa_len h2]; exact hl), fun p hp => q _ _ (s2.trans (same_newD hp _)) (.tup (SqT.of upd_same) (dpak (same_newD hp _) h2))⟩
theorem le_lst {ta : TA} (h : DA R K ta σ H ds) (hl : ds.length ≤ 100000) : LE R K (tLst ta) σ H ds := fun H1 g _ q =>
  h H1 g _ fun vs H2 s2 h2 => ⟨szl (by rw [dpa_len h2]; exact hl), fun p hp => q _ _ (s2.free hp) (s2.trans (same_newD hp _)) ⟨_, upd_same, dpak (same_newD hp _) h2⟩⟩
theorem de_op (ha : DE R K ta σ H d) (hb : DE R K tb σ H e) (hr : RD K r d e f) : DE R K (tOp r ta tb) σ H f := fun H1 g _ q =>
  ha H1 g _ fun x H2 s2 h2 => hb H2 (Edg.trans g (Edg.same s2)) _ fun y H3 s3 h3 => hr H3 x y (dpk s3 h2) h3 _ fun z H4 s4 h4 => q z H4 ((s2.trans s3).trans s4) h4
theorem le_op (ha : DE R K ta σ H d) (hb : DE R K tb σ H e) (hr : RL K r d e fs) : LE R K (tOp r ta tb) σ H fs := fun H1 g _ q =>
  ha H1 g _ fun x H2 s2 h2 => hb H2 (Edg.trans g (Edg.same s2)) _ fun y H3 s3 h3 => hr H3 x y (dpk s3 h2) h3 _ fun a H4 n s4 h4 => q a H4 ((s2.trans s3).free n) ((s2.trans s3).trans s4) h4
/-! operations -/
theorem rd_i {g : Int → Int → Int} {i j : Int} : RD K (rI0 fun i j => .int (g i j)) (.int i) (.int j) (.int (g i j)) := fun H x y h1 h2 Q q => by
  cases h1; cases h2
  exact ⟨i, j, rfl, rfl, q _ H (Same.refl _) (.int _)⟩
theorem rd_ic {g : Int → Int → Int} {C : Int → Int → Prop} {i j : Int} (hc : C i j) : RD K (rI C fun i j => .int (g i j)) (.int i) (.int j) (.int (g i j)) := fun H x y h1 h2 Q q => by
  cases h1; cases h2
  exact ⟨i, j, rfl, rfl, hc, q _ H (Same.refl _) (.int _)⟩
theorem rd_b {g : Int → Int → Bool} {i j : Int} : RD K (rI0 fun i j => .bl (g i j)) (.int i) (.int j) (.bool (g i j)) := fun H x y h1 h2 Q q => by
  cases h1; cases h2
  exact ⟨i, j, rfl, rfl, q _ H (Same.refl _) (.bl _)⟩
theorem rd_ixL {i : Int} (h : atI ds i = some f) : RD K (rIxL K) (.list ds) (.int i) f := fun H x y h1 h2 Q q => by
  obtain ⟨a, xs, rfl, hs, ha⟩ := dp_lstI h1
  cases h2
  unfold atI at h
  cases e : ixN ds.length i with
  | none => rw [e] at h; cases h
  | some j =>
    rw [e] at h
    obtain ⟨v, ev, hv⟩ := dpa_get ha h
    exact ⟨a, xs, i, v, rfl, rfl, hs, by unfold atI; rw [dpa_len ha, e]; exact ev, q _ H (Same.refl _) hv⟩
theorem rd_ixT {i : Int} (h : atI ds i = some f) : RD K (rIxT K) (.tuple ds) (.int i) f := fun H x y h1 h2 Q q => by
  obtain ⟨a, xs, rfl, hs, ha⟩ := dp_tupI h1
  cases h2
  unfold atI at h
  cases e : ixN ds.length i with
  | none => rw [e] at h; cases h
  | some j =>
    rw [e] at h
    obtain ⟨v, ev, hv⟩ := dpa_get ha h
    exact ⟨a, xs, i, v, rfl, rfl, hs, by unfold atI; rw [dpa_len ha, e]; exact ev, q _ H (Same.refl _) hv⟩
theorem rd_ixS {w : Str} {i : Int} {c : Nat} (h : w.length ≤ 100000) (ha : atI w.cps.toList i = some c) : RD K rIxS (.str w) (.int i) (.str ⟨#[c]⟩) := fun H x y h1 h2 Q q => by
  cases h1; cases h2
  exact ⟨w, i, c, rfl, rfl, szl h, ha, q _ H (Same.refl _) (.str _)⟩
theorem rd_eqP (p1 : d.plain = true) (p2 : e.plain = true) (p3 : min d.depth e.depth ≤ 60) : RD K (rEqP K) d e (.bool (PyData.eqv d e)) := fun H x y h1 h2 Q q =>
  ⟨d, e, h1, h2, p1, p2, p3, q _ H (Same.refl _) (.bl _)⟩
theorem rd_neP (p1 : d.plain = true) (p2 : e.plain = true) (p3 : min d.depth e.depth ≤ 60) : RD K (rNeP K) d e (.bool (!PyData.eqv d e)) := fun H x y h1 h2 Q q =>
  ⟨d, e, h1, h2, p1, p2, p3, q _ H (Same.refl _) (.bl _)⟩
theorem rd_eqS {i j : Str} : RD K rEq (.str i) (.str j) (.bool (decide (i = j))) := fun H x y h1 h2 Q q => by
  cases h1; cases h2
  refine ⟨rfl, ?_⟩
  have e : decide (V.str i = V.str j) = decide (i = j) := by
    by_cases h : i = j
    · rw [decide_eq_true h, decide_eq_true (by rw [h])]
    · rw [decide_eq_false h, decide_eq_false fun z => h (V.str.inj z)]
  rw [e]
  exact q _ H (Same.refl _) (.bl _)
theorem rd_neS {i j : Str} : RD K rNe (.str i) (.str j) (.bool (!decide (i = j))) := fun H x y h1 h2 Q q => by
  cases h1; cases h2
  refine ⟨rfl, ?_⟩
  have e : decide (V.str i = V.str j) = decide (i = j) := by
    by_cases h : i = j
    · rw [decide_eq_true h, decide_eq_true (by rw [h])]
    · rw [decide_eq_false h, decide_eq_false fun z => h (V.str.inj z)]
  rw [e]
  exact q _ H (Same.refl _) (.bl _)
theorem rd_eqI {i j : Int} : RD K rEq (.int i) (.int j) (.bool (decide (i = j))) := fun H x y h1 h2 Q q => by
  cases h1; cases h2
  refine ⟨rfl, ?_⟩
  have e : decide (V.int i = V.int j) = decide (i = j) := by
    by_cases h : i = j
    · rw [decide_eq_true h, decide_eq_true (by rw [h])]
    · rw [decide_eq_false h, decide_eq_false fun z => h (V.int.inj z)]
  rw [e]
  exact q _ H (Same.refl _) (.bl _)
theorem rd_neI {i j : Int} : RD K rNe (.int i) (.int j) (.bool (!decide (i = j))) := fun H x y h1 h2 Q q => by
  cases h1; cases h2
  refine ⟨rfl, ?_⟩
  have e : decide (V.int i = V.int j) = decide (i = j) := by
    by_cases h : i = j
    · rw [decide_eq_true h, decide_eq_true (by rw [h])]
    · rw [decide_eq_false h, decide_eq_false fun z => h (V.int.inj z)]
  rw [e]
  exact q _ H (Same.refl _) (.bl _)
theorem rd_eqB {i j : Bool} : RD K rEq (.bool i) (.bool j) (.bool (i == j)) := fun H x y h1 h2 Q q => by
  cases h1; cases h2
  refine ⟨rfl, ?_⟩
  have e : decide (V.bl i = V.bl j) = (i == j) := by cases i <;> cases j <;> rfl
  rw [e]
  exact q _ H (Same.refl _) (.bl _)
theorem rd_neB {i j : Bool} : RD K rNe (.bool i) (.bool j) (.bool (i != j)) := fun H x y h1 h2 Q q => by
  cases h1; cases h2
  refine ⟨rfl, ?_⟩
  have e : (!decide (V.bl i = V.bl j)) = (i != j) := by cases i <;> cases j <;> rfl
  rw [e]
  exact q _ H (Same.refl _) (.bl _)
theorem rd_inL {neg : Bool} {xs : List PD} (p1 : PyData.plainAll xs = true) (p2 : d.plain = true) (p3 : min (PyData.depthAll xs) d.depth ≤ 60) : RD K (rInP K neg) d (.list xs) (.bool (if neg then !(xs.any fun y => PyData.eqv y d) else xs.any fun y => PyData.eqv y d)) := fun H x y h1 h2 Q q =>
  ⟨xs, d, .inl h2, h1, p1, p2, p3, q _ H (Same.refl _) (.bl _)⟩
theorem rd_inT {neg : Bool} {xs : List PD} (p1 : PyData.plainAll xs = true) (p2 : d.plain = true) (p3 : min (PyData.depthAll xs) d.depth ≤ 60) : RD K (rInP K neg) d (.tuple xs) (.bool (if neg then !(xs.any fun y => PyData.eqv y d) else xs.any fun y => PyData.eqv y d)) := fun H x y h1 h2 Q q =>
  ⟨xs, d, .inr h2, h1, p1, p2, p3, q _ H (Same.refl _) (.bl _)⟩
theorem rd_catT (hl : ds.length + es.length ≤ 100000) : RD K (rCatA K) (.tuple ds) (.tuple es) (.tuple (ds ++ es)) := fun H x y h1 h2 Q q => by
  obtain ⟨a, xs, rfl, hs, ha⟩ := dp_tupI h1
  obtain ⟨a2, xs2, rfl, hs2, ha2⟩ := dp_tupI h2
  have hz : xs.length + xs2.length ≤ sizeLine := szl (by rw [dpa_len ha, dpa_len ha2]; exact hl)
  refine ⟨a, a2, xs, xs2, rfl, rfl, hs, hs2, hz, fun z => ?_, fun _ z => ?_, fun _ _ p hp => ?_⟩
  · subst z
    cases ha
    exact q _ H (Same.refl _) h2
  · subst z
    cases ha2
    rw [List.append_nil] at q
    exact q _ H (Same.refl _) h1
  · exact q _ _ (same_newD hp _) (.tup (SqT.of upd_same) (dpak (same_newD hp _) (dpa_app ha ha2)))
theorem rd_catS {i j : Str} (hl : i.length + j.length ≤ 100000) : RD K (fun x y H Q => ∃ i j, x = V.str i ∧ y = V.str j ∧ i.length + j.length ≤ sizeLine ∧ Q (V.str (i ++ j)) H) (.str i) (.str j) (.str (i ++ j)) := fun H x y h1 h2 Q q => by
  cases h1; cases h2
  exact ⟨i, j, rfl, rfl, szl hl, q _ H (Same.refl _) (.str _)⟩
/-! tests -/
theorem bt_test (h : DE R K te σ H (.bool b)) : BT R K (tTest te) σ H b := fun H1 g _ q => h H1 g _ fun v H2 s h2 => by
  cases h2
  exact ⟨b, rfl, q H2 s⟩
theorem bt_B (h : DE R K te σ H (.bool b)) : BT R K (tB te) σ H b := fun H1 g _ q => h H1 g _ fun v H2 s h2 => by
  cases h2
  exact ⟨b, rfl, q H2 s⟩
theorem bt_and (h1 : BT R K t σ H b) (h2 : b = true → BT R K u σ H c) : BT R K (tAnd t u) σ H (b && c) := fun H1 g Q q => h1 H1 g _ fun H2 s2 => by
  cases b with
  | true => exact iteT (h2 rfl H2 (Edg.trans g (Edg.same s2)) Q fun H3 s3 => q H3 (s2.trans s3))
  | false => exact iteF (q H2 s2)
theorem bt_or (h1 : BT R K t σ H b) (h2 : b = false → BT R K u σ H c) : BT R K (tOr t u) σ H (b || c) := fun H1 g Q q => h1 H1 g _ fun H2 s2 => by
  cases b with
  | false => exact iteF (h2 rfl H2 (Edg.trans g (Edg.same s2)) Q fun H3 s3 => q H3 (s2.trans s3))
  | true => exact iteT (q H2 s2)
theorem bt_not (h1 : BT R K t σ H b) : BT R K (tNot t) σ H (!b) := fun H1 g _ q => h1 H1 g _ fun H2 s2 => q H2 s2
theorem bt_tru (h : DE R K te σ H d) (ht : ∀ H v, Dp K H v d → TruV K v H b) : BT R K (fun σ H Q => te σ H fun x H' => ∃ k, TruV K x H' k ∧ Q k H') σ H b := fun H1 g _ q => h H1 g _ fun v H2 s h2 => ⟨b, ht H2 v h2, q H2 s⟩
theorem tru_lst (H : Hp) (v : V) (h : Dp K H v (.list ds)) : TruV K v H (!ds.isEmpty) := by
  obtain ⟨a, xs, rfl, hs, ha⟩ := dp_lstI h
  refine .inl ⟨xs, hs, ?_⟩
  cases ha <;> rfl
theorem tru_tup (H : Hp) (v : V) (h : Dp K H v (.tuple ds)) : TruV K v H (!ds.isEmpty) := by
  obtain ⟨a, xs, rfl, hs, ha⟩ := dp_tupI h
  refine .inr (.inl ⟨xs, hs, ?_⟩)
  cases ha <;> rfl
theorem de_andV (h1 : DE R K ta σ H (.bool b)) (h2 : b = true → DE R K tb σ H (.bool c)) : DE R K (tAndV ta tb) σ H (.bool (b && c)) := fun H1 g Q q => h1 H1 g _ fun v H2 s2 hv => by
  cases hv
  refine ⟨b, rfl, ?_⟩
  cases b with
  | true => exact iteT (h2 rfl H2 (Edg.trans g (Edg.same s2)) Q fun v H3 s3 => q v H3 (s2.trans s3))
  | false => exact iteF (q _ H2 s2 (.bl _))
theorem de_orV (h1 : DE R K ta σ H (.bool b)) (h2 : b = false → DE R K tb σ H (.bool c)) : DE R K (tOrV ta tb) σ H (.bool (b || c)) := fun H1 g Q q => h1 H1 g _ fun v H2 s2 hv => by
  cases hv
  refine ⟨b, rfl, ?_⟩
  cases b with
  | false => exact iteF (h2 rfl H2 (Edg.trans g (Edg.same s2)) Q fun v H3 s3 => q v H3 (s2.trans s3))
  | true => exact iteT (q _ H2 s2 (.bl _))
theorem de_notV (h1 : DE R K ta σ H (.bool b)) : DE R K (tNotV ta) σ H (.bool (!b)) := fun H1 g Q q => h1 H1 g _ fun v H2 s2 hv => by
  cases hv
  exact ⟨b, rfl, q _ H2 s2 (.bl _)⟩
theorem de_if (h : BT R K t σ H b) (h1 : b = true → DE R K ta σ H d) (h2 : b = false → DE R K tb σ H e) : DE R K (tIf t ta tb) σ H (if b then d else e) := fun H1 g Q q => h H1 g _ fun H2 s2 => by
  cases b with
  | true => exact iteT (h1 rfl H2 (Edg.trans g (Edg.same s2)) Q fun v H3 s3 => q v H3 (s2.trans s3))
  | false => exact iteF (h2 rfl H2 (Edg.trans g (Edg.same s2)) Q fun v H3 s3 => q v H3 (s2.trans s3))
/-- a < b < c: c is asked only where the first holds -/
theorem bt_chain {r' : R2} {tc : TE} {g : PD} (ha : DE R K ta σ H d) (hb : DE R K tb σ H e) (hr : RD K r d e (.bool b)) (hc : b = true → DE R K tc σ H f) (hr' : b = true → RD K r' e f (.bool c)) : BT R K (tTest (tChain r r' ta tb tc)) σ H (b && c) := fun H1 g _ q =>
  ha H1 g _ fun x H2 s2 h2 => hb H2 (Edg.trans g (Edg.same s2)) _ fun y H3 s3 h3 => hr H3 x y (dpk s3 h2) h3 _ fun z H4 s4 h4 => by
    cases h4
    have s24 := (s2.trans s3).trans s4
    refine ⟨b, rfl, ?_⟩
    cases b with
    | false => exact iteF ⟨false, rfl, q H4 s24⟩
    | true =>
      refine iteT (hc rfl H4 (Edg.trans g (Edg.same s24)) _ fun w H5 s5 h5 => ?_)
      refine hr' rfl H5 y w (dpk (s4.trans s5) h3) h5 _ fun z H6 s6 h6 => ?_
      cases h6
      exact ⟨c, rfl, q H6 ((s24.trans s5).trans s6)⟩
/-! slices -/
theorem do_none : DO R K tNoPart σ H none := fun H1 _ _ q => q H1 (Same.refl _)
theorem do_some {i : Int} (h : DE R K te σ H (.int i)) : DO R K (tPart te) σ H (some i) := fun H1 g _ q => h H1 g _ fun v H2 s h2 => by
  cases h2
  exact ⟨i, rfl, q H2 s⟩
def cutD {α : Type} (xs : List α) (lo hi : Option Int) : List α := (xs.drop (HT.sIx xs.length 0 lo)).take (HT.sIx xs.length xs.length hi - HT.sIx xs.length 0 lo)
theorem dpa_cut {vs : List V} {lo hi : Option Int} (h : DpAll K H vs ds) : DpAll K H (cutV vs lo hi) (cutD ds lo hi) := by
  unfold cutV cutD
  rw [dpa_len h]
  exact dpa_take _ (dpa_drop _ h)
theorem le_slL {tl th : TO} {lo hi : Option Int} (h : DE R K te σ H (.list ds)) (h1 : DO R K tl σ H lo) (h2 : DO R K th σ H hi) : LE R K (tSl (rSlL K) te tl th) σ H (cutD ds lo hi) := fun H1 g _ q =>
  h H1 g _ fun v H2 s2 hv => h1 H2 (Edg.trans g (Edg.same s2)) _ fun H3 s3 => h2 H3 (Edg.trans g (Edg.same (s2.trans s3))) _ fun H4 s4 => by
    obtain ⟨a, xs, rfl, hs, ha⟩ := dp_lstI (dpk (s3.trans s4) hv)
    have s := (s2.trans s3).trans s4
    exact ⟨a, xs, rfl, hs, fun p hp => q _ _ (s.free hp) (s.trans (same_newD hp _)) ⟨_, upd_same, dpak (same_newD hp _) (dpa_cut ha)⟩⟩
theorem de_slT {tl th : TO} {lo hi : Option Int} (h : DE R K te σ H (.tuple ds)) (h1 : DO R K tl σ H lo) (h2 : DO R K th σ H hi) : DE R K (tSl (rSlA K) te tl th) σ H (.tuple (cutD ds lo hi)) := fun H1 g _ q =>
  h H1 g _ fun v H2 s2 hv => h1 H2 (Edg.trans g (Edg.same s2)) _ fun H3 s3 => h2 H3 (Edg.trans g (Edg.same (s2.trans s3))) _ fun H4 s4 => by
    obtain ⟨a, xs, rfl, hs, ha⟩ := dp_tupI (dpk (s3.trans s4) hv)
    have s := (s2.trans s3).trans s4
    refine ⟨a, xs, rfl, hs, fun z => ?_, fun _ p hp => q _ _ (s.trans (same_newD hp _)) (.tup (SqT.of upd_same) (dpak (same_newD hp _) (dpa_cut ha)))⟩
    refine q _ H4 s ?_
    rw [dpa_len ha] at z
    have e : cutD ds lo hi = ds := by
      unfold cutD
      rw [z.1, z.2]
      simp
    rw [e]
    exact .tup hs ha
theorem de_slS {tl th : TO} {w : Str} {lo hi : Option Int} (h : DE R K te σ H (.str w)) (h1 : DO R K tl σ H lo) (h2 : DO R K th σ H hi) (hw : w.length ≤ 100000) : DE R K (tSl rSlS te tl th) σ H (.str (cutS w lo hi)) := fun H1 g _ q =>
  h H1 g _ fun v H2 s2 hv => h1 H2 (Edg.trans g (Edg.same s2)) _ fun H3 s3 => h2 H3 (Edg.trans g (Edg.same (s2.trans s3))) _ fun H4 s4 => by
    cases hv
    exact ⟨w, rfl, szl hw, q _ H4 ((s2.trans s3).trans s4) (.str _)⟩
/-! calls -/
theorem de_cb {r : List V → Hp → VK → Prop} {ta : TA} (h : DA R K ta σ H ds) (hr : RC K r ds f) : DE R K (tCB r ta) σ H f := fun H1 g _ q =>
  h H1 g _ fun vs H2 s2 h2 => hr H2 vs h2 _ fun z H3 s3 h3 => q z H3 (s2.trans s3) h3
theorem le_cb {r : List V → Hp → VK → Prop} {ta : TA} (h : DA R K ta σ H ds) (hr : RCL K r ds fs) : LE R K (tCB r ta) σ H fs := fun H1 g _ q =>
  h H1 g _ fun vs H2 s2 h2 => hr H2 vs h2 _ fun a H3 n s3 h3 => q a H3 (s2.free n) (s2.trans s3) h3
/-- a def on data that tells data -/
def spD (K : PySem.W.Frag) (G : List PD → PD → Prop) : Sp := fun vs H Q _ => ∃ ds d, DpAll K H vs ds ∧ G ds d ∧ ∀ v H', Same H H' → Dp K H' v d → Q v H'
theorem de_call {G : List PD → PD → Prop} {E : XK} {ta : TA} (h : DA R K ta σ H ds) (hg : G ds f) : DE R K (tCall (spD K G) [] E ta) σ H f := fun H1 g _ q =>
  h H1 g _ fun vs H2 s2 h2 => ⟨ds, f, by rw [List.append_nil]; exact h2, hg, fun v H3 s3 h3 => q v H3 (s2.trans s3) h3⟩
/-- .. a new list -/
def spDL (K : PySem.W.Frag) (G : List PD → List PD → Prop) : Sp := fun vs H Q _ => ∃ ds d, DpAll K H vs ds ∧ G ds d ∧ ∀ a H', H a = none → Same H H' → Lt K H' a d → Q (.ref a) H'
theorem le_call {G : List PD → List PD → Prop} {E : XK} {ta : TA} (h : DA R K ta σ H ds) (hg : G ds fs) : LE R K (tCall (spDL K G) [] E ta) σ H fs := fun H1 g _ q =>
  h H1 g _ fun vs H2 s2 h2 => ⟨ds, fs, by rw [List.append_nil]; exact h2, hg, fun v H3 n s3 h3 => q v H3 (s2.free n) (s2.trans s3) h3⟩
theorem rc_lenS {w : Str} (h : w.length ≤ 100000) : RC K (fun vs H Q => ∃ z, vs = [V.str z] ∧ z.length ≤ sizeLine ∧ Q (.int z.length) H) [.str w] (.int w.length) := fun H vs hv Q q => by
  cases hv with
  | cons h1 h2 =>
    cases h1; cases h2
    exact ⟨w, rfl, szl h, q _ H (Same.refl _) (.int _)⟩
end
end Dl

set_option maxRecDepth 100000
set_option maxHeartbeats 4000000
namespace Dl
open PySem PySem.Spec PyProof.Rows L2 My
/-! ### what is walked -/
def SrcY (K : PySem.W.Frag) (H2 : Hp) (ds : List PD) : Nat → Hp → V → Hp → Prop := fun i H x H' => Same H H' ∧ ∀ (R' : Hp → Hp → Prop) [Edg R'], R' H2 H → ∃ d, ds[i]? = some d ∧ Dp K H' x d
def Src (R : Hp → Hp → Prop) (K : PySem.W.Frag) (wi : TI) (σ : L2.St) (H : Hp) (ds : List PD) : Prop := ∀ H1, R H H1 → ∀ Q : It → Hp → Prop,
  (∀ J H2 (G : Hp → Prop), Same H1 H2 → (∀ (R' : Hp → Hp → Prop) [Edg R'] H', R' H2 H' → G H') → Walk J ds.length G (SrcY K H2 ds) → Q J H2) → wi σ H1 Q
section
variable {R : Hp → Hp → Prop} [Edg R] {K : PySem.W.Frag} {σ : L2.St} {H H' : Hp} {ta tb te tx : TE} {tt : TT} {x y z v : V} {d e f : PD} {ds es fs : List PD} {b c : Bool} {a : Addr}
theorem src_list (h : DE R K te σ H (.list ds)) : Src R K (iList K te) σ H ds := fun H1 g Q q => h H1 g _ fun v H2 s2 hv => by
  obtain ⟨a, ys, rfl, hs, ha⟩ := dp_lstI hv
  refine ⟨a, rfl, ⟨ys, hs⟩, q _ H2 (fun H => SqL K H a ys) s2 (fun R' _ H' r => Edg.l r hs) ?_⟩
  rw [← dpa_len ha]
  refine walk_list.mono (fun _ h => h) fun i H x H' _ _ ⟨e, hx⟩ => ?_
  subst e
  refine ⟨Same.refl _, fun R' _ r => ?_⟩
  obtain ⟨d, e, hd⟩ := dpa_get' ha hx
  exact ⟨d, e, dpk r hd⟩
theorem src_tup (h : DE R K te σ H (.tuple ds)) : Src R K (iTup K te) σ H ds := fun H1 g Q q => h H1 g _ fun v H2 s2 hv => by
  obtain ⟨a, ys, rfl, hs, ha⟩ := dp_tupI hv
  refine ⟨a, rfl, ⟨ys, hs⟩, q _ H2 (fun H => SqT K H a ys) s2 (fun R' _ H' r => Edg.t r hs) ?_⟩
  rw [← dpa_len ha]
  refine walk_tup.mono (fun _ h => h) fun i H x H' _ _ ⟨e, hx⟩ => ?_
  subst e
  refine ⟨Same.refl _, fun R' _ r => ?_⟩
  obtain ⟨d, e, hd⟩ := dpa_get' ha hx
  exact ⟨d, e, dpk r hd⟩
def signs (w : Str) : List PD := w.cps.toList.map fun c => .str ⟨#[c]⟩
theorem src_str {w : Str} (h : DE R K te σ H (.str w)) : Src R K (iStr te) σ H (signs w) := fun H1 g Q q => h H1 g _ fun v H2 s2 hv => by
  cases hv
  refine ⟨w, rfl, q _ H2 (fun _ => True) s2 (fun _ _ _ _ => trivial) ?_⟩
  have e : (signs w).length = w.cps.size := by unfold signs; rw [List.length_map, Array.length_toList]
  rw [e]
  refine walk_str.mono (fun _ h => h) fun i H x H' _ _ ⟨e, c, hc, ex⟩ => ?_
  subst e ex
  refine ⟨Same.refl _, fun R' _ r => ⟨_, ?_, .str _⟩⟩
  unfold signs
  rw [List.getElem?_map, Array.getElem?_toList, hc]
  rfl
def upto (n : Nat) : List PD := (List.range n).map fun (i : Nat) => .int (i : Int)
theorem src_r1 {n : Nat} (h : DA R K (tCons te tNil) σ H [.int (n : Int)]) (hn : n ≤ 100000) : Src R K (iRng1 (tCons te tNil)) σ H (upto n) := fun H1 g Q q => h H1 g _ fun vs H2 s2 hv => by
  cases hv with
  | cons h1 h2 =>
    cases h1; cases h2
    refine ⟨(n : Int), rfl, by omega, by omega, ?_⟩
    have e : ((n : Int)).toNat = n := Int.toNat_natCast n
    rw [e]
    refine q _ H2 (fun _ => True) s2 (fun _ _ _ _ => trivial) ?_
    have e : (upto n).length = n := by unfold upto; rw [List.length_map, List.length_range]
    rw [e]
    refine walk_range.mono (fun _ h => h) fun i H x H' hi _ ⟨e, ex⟩ => ?_
    subst e ex
    refine ⟨Same.refl _, fun R' _ r => ⟨_, ?_, .int _⟩⟩
    unfold upto
    rw [List.getElem?_map, List.getElem?_range hi]
    show some (PyData.int (i : Int)) = _
    rw [Int.zero_add]
theorem src_enum (h : DA R K (tCons te tNil) σ H [.list ds]) : Src R K (iEnum K (tCons te tNil)) σ H (ds.zipIdx.map fun p => .tuple [.int (p.2 : Int), p.1]) := fun H1 g Q q => h H1 g _ fun vs H2 s2 hv => by
  cases hv with
  | cons h1 h2 =>
    cases h2
    obtain ⟨a, ys, rfl, hs, ha⟩ := dp_lstI h1
    refine ⟨a, ys, rfl, hs, q _ H2 (fun H => SqL K H a ys) s2 (fun R' _ H' r => Edg.l r hs) ?_⟩
    have e : (ds.zipIdx.map fun p => PyData.tuple [.int (p.2 : Int), p.1]).length = ys.length := by rw [List.length_map, List.length_zipIdx, dpa_len ha]
    rw [e]
    refine walk_enum.mono (fun _ h => h) fun i H x H' hi _ ⟨T, u, w, e1, e2, e3, e4, e5⟩ => ?_
    subst e1 e3
    refine ⟨same_newD e2 _, fun R' _ r => ?_⟩
    obtain ⟨d, e, hd⟩ := dpa_get' ha e5
    cases e4
    refine ⟨_, by rw [List.getElem?_map, List.getElem?_zipIdx, e]; rfl, .tup (SqT.of upd_same) (.cons ?_ (.cons ?_ .nil))⟩
    · rw [Nat.zero_add]
      exact .int _
    · exact dpk (same_newD e2 _) (dpk r hd)
/-! ### comprehensions -/
theorem filt_take {α : Type} {xs : List α} {c : α → Bool} {j : Nat} {x : α} (h : xs[j]? = some x) : (xs.take (j + 1)).filter c = (xs.take j).filter c ++ (if c x then [x] else []) := by
  rw [List.take_add_one, h, List.filter_append]
  congr 1
  show List.filter c [x] = _
  rw [List.filter_cons, List.filter_nil]
theorem lc_turn {α : Type} {xs : List α} {enc f : α → PD} {cnd : α → Bool} {j : Nat} {x : α} {σ2 : L2.St} {H2 H4 : Hp} {D : Addr} (hD : H2 D = none) (hx : xs[j]? = some x) (hn : xs.length ≤ 50000) (p : Same H2 H4 ∧ Lt K H4 D (((xs.take j).filter cnd).map f))
    (hc : BT R K tt σ2 H4 (cnd x)) (he : cnd x = true → DE R K te σ2 H4 (f x)) (hf : ∀ x ∈ xs, cnd x = true → nl (f x) = true) :
    tt σ2 H4 fun b H3 => if b = true then te σ2 H3 fun y H5 => ∃ acc, H5 D = some (.lst acc) ∧ acc.length < sizeLine ∧ (Same H2 (upd H5 D (.lst (acc ++ [y]))) ∧ Lt K (upd H5 D (.lst (acc ++ [y]))) D (((xs.take (j + 1)).filter cnd).map f))
      else (Same H2 H3 ∧ Lt K H3 D (((xs.take (j + 1)).filter cnd).map f)) := by
  obtain ⟨sm, acc, eD, ha⟩ := p
  rw [filt_take hx]
  refine hc H4 (Edg.refl _) _ fun H5 s5 => ?_
  cases e : cnd x with
  | false =>
    refine iteF ⟨sm.trans s5, ?_⟩
    show Lt K H5 D ((List.filter cnd (List.take j xs) ++ []).map f)
    rw [List.append_nil]
    exact ⟨acc, s5 _ _ eD, dpak s5 ha⟩
  | true =>
    refine iteT (he e H5 (Edg.same s5) _ fun z H6 s6 hz => ⟨acc, s6 _ _ (s5 _ _ eD), ?_, same_mut ((sm.trans s5).trans s6) hD, _, upd_same, ?_⟩)
    · have h1 := dpa_len ha
      rw [List.length_map] at h1
      have h2 := List.length_filter_le cnd (xs.take j)
      rw [List.length_take] at h2
      exact szs (by omega)
    · have tk : Tk H6 (upd H6 D (.lst (acc ++ [z]))) := Tk.putL (s6 _ _ (s5 _ _ eD))
      rw [List.map_append]
      refine dpa_app (dpa_tk tk _ _ (nlA_iff.mpr fun d hd => ?_) (dpak (s5.trans s6) ha)) (.cons (dp_tk tk _ _ (hf x (List.mem_of_getElem? hx) e) hz) .nil)
      obtain ⟨y, hy, rfl⟩ := List.mem_map.mp hd
      obtain ⟨h1, h2⟩ := List.mem_filter.mp hy
      exact hf y (List.mem_of_mem_take h1) h2
theorem le_lc {α : Type} {xs : List α} {enc f : α → PD} {cnd : α → Bool} {i : Nat} {vs : List Nat} {wi : TI} (hs : Src R K wi σ H (xs.map enc)) (hn : xs.length ≤ 50000) (hw : ∀ w : V, wipe ((wipe σ vs).set i (some w)) vs = wipe σ vs)
    (hb : ∀ x ∈ xs, ∀ w H', R H H' → Dp K H' w (enc x) → BT R K tt ((wipe σ vs).set i (some w)) H' (cnd x) ∧ (cnd x = true → DE R K te ((wipe σ vs).set i (some w)) H' (f x))) (hf : ∀ x ∈ xs, cnd x = true → nl (f x) = true) :
    LE R K (tLc wi (gName i) tt te vs) σ H ((xs.filter cnd).map f) := fun H1 g Q q => hs H1 g _ fun J H2 G s2 hG W D hD => by
  have hl : (xs.map enc).length = xs.length := List.length_map ..
  refine lc_it W (fun j H' => Same H2 H' ∧ Lt K H' D (((xs.take j).filter cnd).map f)) ⟨same_newD hD _, [], upd_same, .nil⟩ (fun j H' _ p => hG Same H' p.1) ?_ ?_
  · rintro j v H3 H4 hj ⟨sm, acc, eD, ha⟩ ⟨s34, hY⟩
    obtain ⟨d, ed, hd⟩ := hY Same sm
    rw [List.getElem?_map] at ed
    cases ex : xs[j]? with
    | none => rw [ex] at ed; cases ed
    | some x =>
      rw [ex] at ed
      cases ed
      obtain ⟨hc, he⟩ := hb x (List.mem_of_getElem? ex) v H4 (Edg.trans g (Edg.same ((s2.trans sm).trans s34))) hd
      exact ⟨hw v, lc_turn (enc := enc) hD ex hn ⟨sm.trans s34, acc, s34 _ _ eD, dpak s34 ha⟩ hc he hf⟩
  · intro H' p
    rw [hl, List.take_length] at p
    exact q D H' (s2.free hD) (s2.trans p.1) p.2
theorem le_lc2 {α : Type} {xs : List α} {e1 e2 f : α → PD} {cnd : α → Bool} {i i' : Nat} {vs : List Nat} {wi : TI} (hs : Src R K wi σ H (xs.map fun x => .tuple [e1 x, e2 x])) (hn : xs.length ≤ 50000) (hw : ∀ w w' : V, wipe (((wipe σ vs).set i (some w)).set i' (some w')) vs = wipe σ vs)
    (hb : ∀ x ∈ xs, ∀ w w' H', R H H' → Dp K H' w (e1 x) → Dp K H' w' (e2 x) → BT R K tt (((wipe σ vs).set i (some w)).set i' (some w')) H' (cnd x) ∧ (cnd x = true → DE R K te (((wipe σ vs).set i (some w)).set i' (some w')) H' (f x))) (hf : ∀ x ∈ xs, cnd x = true → nl (f x) = true) :
    LE R K (tLc wi (gTup K 2 (gCons (gName i) (gCons (gName i') gNil))) tt te vs) σ H ((xs.filter cnd).map f) := fun H1 g Q q => hs H1 g _ fun J H2 G s2 hG W D hD => by
  have hl : (xs.map fun x => PyData.tuple [e1 x, e2 x]).length = xs.length := List.length_map ..
  refine lc_it W (fun j H' => Same H2 H' ∧ Lt K H' D (((xs.take j).filter cnd).map f)) ⟨same_newD hD _, [], upd_same, .nil⟩ (fun j H' _ p => hG Same H' p.1) ?_ ?_
  · rintro j v H3 H4 hj ⟨sm, acc, eD, ha⟩ ⟨s34, hY⟩
    obtain ⟨d, ed, hd⟩ := hY Same sm
    rw [List.getElem?_map] at ed
    cases ex : xs[j]? with
    | none => rw [ex] at ed; cases ed
    | some x =>
      rw [ex] at ed
      cases ed
      obtain ⟨a, ys, rfl, ht, hy⟩ := dp_tupI hd
      cases hy with
      | @cons w _ _ _ h1 hy =>
        cases hy with
        | @cons w' _ _ _ h2 hy =>
          cases hy
          obtain ⟨hc, he⟩ := hb x (List.mem_of_getElem? ex) w w' H4 (Edg.trans g (Edg.same ((s2.trans sm).trans s34))) h1 h2
          exact ⟨a, _, rfl, ht, rfl, w, [w'], rfl, w', [], rfl, rfl, hw w w', lc_turn (enc := fun x => PyData.tuple [e1 x, e2 x]) hD ex hn ⟨sm.trans s34, acc, s34 _ _ eD, dpak s34 ha⟩ hc he hf⟩
  · intro H' p
    rw [hl, List.take_length] at p
    exact q D H' (s2.free hD) (s2.trans p.1) p.2
theorem bt_yes : BT R K tYes σ H true := fun H1 _ _ q => q H1 (Same.refl _)
/-! ### statements -/
variable {D : Ends} {tu tw : TS}
theorem s_set (R : Hp → Hp → Prop) [Edg R] {i : Nat} (h : DE R K te σ H d) (k : ∀ v H1, Same H H1 → Dp K H1 v d → D.nx (σ.set i (some v)) H1) : tAsg te (gName i) D σ H := h H (Edg.refl H) _ fun v H1 s hv => k v H1 s hv
theorem s_setL (R : Hp → Hp → Prop) [Edg R] {i : Nat} (h : LE R K te σ H ds) (k : ∀ a H1, H a = none → Same H H1 → Lt K H1 a ds → D.nx (σ.set i (some (.ref a))) H1) : tAsg te (gName i) D σ H := h H (Edg.refl H) _ k
theorem s_ret (R : Hp → Hp → Prop) [Edg R] (h : DE R K te σ H d) (k : ∀ v H1, Same H H1 → Dp K H1 v d → D.rt v H1) : tRet te D σ H := h H (Edg.refl H) _ k
theorem s_retL (R : Hp → Hp → Prop) [Edg R] (h : LE R K te σ H ds) (k : ∀ a H1, H a = none → Same H H1 → Lt K H1 a ds → D.rt (.ref a) H1) : tRet te D σ H := h H (Edg.refl H) _ k
theorem s_if (R : Hp → Hp → Prop) [Edg R] (h : BT R K tt σ H b) (h1 : b = true → ∀ H1, Same H H1 → tu D σ H1) (h2 : b = false → ∀ H1, Same H H1 → tw D σ H1) : tIfS tt tu tw D σ H := h H (Edg.refl H) _ fun H1 s => by
  cases b with
  | true => exact iteT (h1 rfl H1 s)
  | false => exact iteF (h2 rfl H1 s)
theorem s_drop (R : Hp → Hp → Prop) [Edg R] (h : DE R K te σ H d) (k : ∀ H1, Same H H1 → D.nx σ H1) : tDrop te D σ H := h H (Edg.refl H) _ fun _ H1 s _ => k H1 s
/-- xs.append(e), xs one's own -/
theorem s_app (R : Hp → Hp → Prop) [Edg R] {l : Addr} (hl : Lt K H l ds) (ha : σ[i]? = some (some (.ref l))) (h : DE R K te σ H d) (hz : ds.length < 100000) (n1 : nlA ds = true) (n2 : nl d = true) (k : ∀ H1, Same H H1 → ∀ o, Lt K (upd H1 l o) l (ds ++ [d]) → Tk H1 (upd H1 l o) → D.nx σ (upd H1 l o)) :
    tDrop (tBM K "list" rAppend (tVar i) (tCons te tNil)) D σ H := by
  obtain ⟨vs, e, hv⟩ := hl
  refine ⟨_, ha, .inl ⟨rfl, _, SqL.of e⟩, ?_⟩
  refine h H (Edg.refl H) _ fun v H1 s h1 => ⟨l, vs, v, rfl, rfl, s _ _ e, szs (by rw [dpa_len hv]; exact hz), ?_⟩
  have tk : Tk H1 (upd H1 l (.lst (vs ++ [v]))) := Tk.putL (s _ _ e)
  exact k H1 s _ ⟨_, upd_same, dpa_app (dpa_tk tk _ _ n1 (dpak s hv)) (.cons (dp_tk tk _ _ n2 h1) .nil)⟩ tk
/-! loops -/
/-- R': what the loop keeps; Pv by the turn, the slots and the heap -/
theorem s_for (R : Hp → Hp → Prop) [Edg R] (R' : Hp → Hp → Prop) [Edg R'] {α : Type} {xs : List α} {enc : α → PD} {j : Nat} {wi : TI} (hs : Src R K wi σ H (xs.map enc))
    (k : ∀ H1, Same H H1 → ∃ Pv : Nat → L2.St → Hp → Prop, Pv 0 σ H1 ∧ (∀ i σ' H', Pv i σ' H' → R' H1 H') ∧
      (∀ i x w σ' H' H2, xs[i]? = some x → Pv i σ' H' → Same H' H2 → Dp K H2 w (enc x) → tu { D with nx := Pv (i + 1), ct := Pv (i + 1), bk := D.nx } (σ'.set j (some w)) H2) ∧ (∀ σ' H', Pv xs.length σ' H' → D.nx σ' H')) : tFor wi (gName j) tu D σ H :=
  hs H (Edg.refl H) _ fun J H2 G s2 hG W => by
    obtain ⟨Pv, h0, hR, ht, hd⟩ := k H2 s2
    have hl : (xs.map enc).length = xs.length := List.length_map ..
    refine for_it W Pv h0 (fun i σ' H' _ p => hG R' H' (hR i σ' H' p)) ?_ (by rw [hl]; exact hd)
    rintro i v σ' H3 H4 hi p ⟨s34, hY⟩
    obtain ⟨d, ed, hd⟩ := hY R' (hR i σ' H3 p)
    rw [List.getElem?_map] at ed
    cases ex : xs[i]? with
    | none => rw [ex] at ed; cases ed
    | some x =>
      rw [ex] at ed
      cases ed
      exact ht i x v σ' H3 H4 ex p s34 hd
theorem s_for2 (R : Hp → Hp → Prop) [Edg R] (R' : Hp → Hp → Prop) [Edg R'] {α : Type} {xs : List α} {e1 e2 : α → PD} {j j' : Nat} {wi : TI} (hs : Src R K wi σ H (xs.map fun x => .tuple [e1 x, e2 x]))
    (k : ∀ H1, Same H H1 → ∃ Pv : Nat → L2.St → Hp → Prop, Pv 0 σ H1 ∧ (∀ i σ' H', Pv i σ' H' → R' H1 H') ∧
      (∀ i x w w' σ' H' H2, xs[i]? = some x → Pv i σ' H' → Same H' H2 → Dp K H2 w (e1 x) → Dp K H2 w' (e2 x) → tu { D with nx := Pv (i + 1), ct := Pv (i + 1), bk := D.nx } ((σ'.set j (some w)).set j' (some w')) H2) ∧ (∀ σ' H', Pv xs.length σ' H' → D.nx σ' H')) :
    tFor wi (gTup K 2 (gCons (gName j) (gCons (gName j') gNil))) tu D σ H :=
  hs H (Edg.refl H) _ fun J H2 G s2 hG W => by
    obtain ⟨Pv, h0, hR, ht, hd⟩ := k H2 s2
    have hl : (xs.map fun x => PyData.tuple [e1 x, e2 x]).length = xs.length := List.length_map ..
    refine for_it W Pv h0 (fun i σ' H' _ p => hG R' H' (hR i σ' H' p)) ?_ (by rw [hl]; exact hd)
    rintro i v σ' H3 H4 hi p ⟨s34, hY⟩
    obtain ⟨d, ed, hd⟩ := hY R' (hR i σ' H3 p)
    rw [List.getElem?_map] at ed
    cases ex : xs[i]? with
    | none => rw [ex] at ed; cases ed
    | some x =>
      rw [ex] at ed
      cases ed
      obtain ⟨a, ys, rfl, hT, hy⟩ := dp_tupI hd
      cases hy with
      | @cons w _ _ _ h1 hy =>
        cases hy with
        | @cons w' _ _ _ h2 hy =>
          cases hy
          exact ⟨a, _, rfl, hT, rfl, w, [w'], rfl, w', [], rfl, rfl, ht i x w w' σ' H3 H4 ex p s34 h1 h2⟩
end
theorem cutD_map {α β : Type} (f : α → β) (xs : List α) (lo hi : Option Int) : cutD (xs.map f) lo hi = (cutD xs lo hi).map f := by
  unfold cutD
  rw [List.length_map, ← List.map_drop, ← List.map_take]
theorem cutD_to {α : Type} (xs : List α) (n : Nat) : cutD xs none (some (n : Int)) = xs.take n := by
  unfold cutD
  rw [show HT.sIx xs.length xs.length (some (n : Int)) = min n xs.length from HT.sIx_nat _ _ n, HT.sIx_none, List.drop_zero, Nat.sub_zero]
  by_cases h : n ≤ xs.length
  · rw [Nat.min_eq_left h]
  · rw [Nat.min_eq_right (by omega), List.take_of_length_le (Nat.le_refl _), List.take_of_length_le (by omega)]
theorem cutD_from {α : Type} (xs : List α) (n : Nat) : cutD xs (some (n : Int)) none = xs.drop n := by
  unfold cutD
  rw [show HT.sIx xs.length 0 (some (n : Int)) = min n xs.length from HT.sIx_nat _ _ n, HT.sIx_none]
  by_cases h : n ≤ xs.length
  · rw [Nat.min_eq_left h, List.take_of_length_le (by rw [List.length_drop]; exact Nat.le_refl _)]
  · rw [Nat.min_eq_right (by omega), List.drop_of_length_le (Nat.le_refl _), List.drop_of_length_le (by omega), List.take_nil]
section
variable {R : Hp → Hp → Prop} [Edg R] {K : PySem.W.Frag} {σ : L2.St} {H H' : Hp} {ta tb : TE} {ds es : List PD} {a : Addr}
theorem le_cat (ha : LE R K ta σ H ds) (hb : LE R K tb σ H es) (hl : ds.length + es.length ≤ 100000) : LE R K (tOp rCat ta tb) σ H (ds ++ es) := fun H1 g _ q =>
  ha H1 g _ fun a H2 n2 s2 ⟨xs, e1, h1⟩ => hb H2 (Edg.trans g (Edg.same s2)) _ fun b H3 n3 s3 ⟨ys, e2, h2⟩ =>
    ⟨a, b, xs, ys, rfl, rfl, s3 _ _ e1, e2, szl (by rw [dpa_len h1, dpa_len h2]; exact hl), fun p hp => q p _ ((s2.trans s3).free hp) ((s2.trans s3).trans (same_newD hp _)) ⟨_, upd_same, dpak (same_newD hp _) (dpa_app (dpak s3 h1) h2)⟩⟩
theorem lt_strs {xs : List Str} (h : Lt K H a (xs.map .str)) : H a = some (.lst (xs.map V.str)) := by
  obtain ⟨vs, e, q⟩ := h
  rw [e, dpa_strs q]
end
end Dl

namespace My
open PySem PySem.Spec PyProof.Rows L2
/-- a def that may raise, called where it doesn't -/
theorem fnok_calm {P : Program} {w : World} {K : PySem.W.Frag} {mg : Str → Option Value} {base : Heap} {k : Nat} {f : Addr} {fd : FuncData} {ps : List Str} {sp : Sp} (F : FnOk P w K mg base (L2.CX P w) k f fd ps sp) :
    FnOk P w K mg base CX0 k f fd ps (fun vs H Q _ => sp vs H Q fun _ _ _ => False) :=
  ⟨fun vs H Q _ h => F.len vs H Q _ h, fun A outer s H args us vs Q E hr he hb hv h Γ p hc hB => by
    refine wpCode_mono (fun r s' q => ?_) (F.run A outer s H args us vs Q _ hr he hb hv h Γ p hc hB)
    cases r with
    | error e =>
      obtain ⟨_, _, _, _, _, _, _, _, _, _, _, _, z⟩ := q
      exact z.elim
    | ok v => cases v <;> exact q⟩
end My

set_option maxRecDepth 100000
set_option maxHeartbeats 4000000
namespace My
open PySem PySem.Spec PyProof.Rows L2
def top (i : Nat) : Stmt := PySem.Challenge.pw_middlesay_k03_tables_of_truth.main.body.getD i (.Pass ⟨0, 0, 0, 0⟩)
abbrev FnP (K : PySem.W.Frag) (x : Str) (st : Stmt) (f : Addr) (fd : FuncData) : Prop := FunD K x x (defArgs st) (defBody st) (defScope st) [] [] f fd
abbrev sTape : Stmt := top 14
abbrev sDraw : Stmt := top 15
/-! ### the tape -/
abbrev kC : Key := Sum.inr ("cells" : Str)
abbrev kS : Key := Sum.inr ("spot" : Str)
abbrev kL : Key := Sum.inr ("left" : Str)
def tkv (L : Addr) (s l : Int) : List (Key × V) := [(kC, .ref L), (kS, .int s), (kL, .int l)]
theorem tkv_C (L : Addr) (s l : Int) : valV (tkv L s l) kC = some (.ref L) := rfl
theorem tkv_S (L : Addr) (s l : Int) : valV (tkv L s l) kS = some (.int s) := rfl
theorem tkv_L (L : Addr) (s l : Int) : valV (tkv L s l) kL = some (.int l) := rfl
theorem tkv_putS (L : Addr) (s l v : Int) : putK (tkv L s l) kS (.int v) = tkv L v l := rfl
theorem tkv_putL (L : Addr) (s l v : Int) : putK (tkv L s l) kL (.int v) = tkv L s v := rfl
theorem tkv_len (L : Addr) (s l : Int) : (tkv L s l).length < sizeLine := by
  show 3 < sizeLine
  decide
/-- at T a tape: cells at L, at most B drawn -/
structure TapeAt (H : Hp) (T L : Addr) (ns : List Int) (s l : Int) : Prop where
  d : H T = some (.dK (tkv L s l))
  c : H L = some (.lst (ns.map V.int))
def Tape (H : Hp) (T L : Addr) (B : Int) : Prop := ∃ (ns : List Int) (s l : Int), TapeAt H T L ns s l ∧ 0 ≤ s ∧ s ≤ B ∧ ns.length ≤ 63
/-- all but what stands at T is as it was -/
def Keep (T : Addr) (H H' : Hp) : Prop := ∀ b o, H b = some o → b ≠ T → H' b = some o
theorem Keep.trans {T : Addr} {H H1 H2 : Hp} (a : Keep T H H1) (b : Keep T H1 H2) : Keep T H H2 := fun c o h n => b c o (a c o h n) n
theorem Keep.of {T : Addr} {H H' : Hp} (a : Same H H') : Keep T H H' := fun b o h _ => a b o h
theorem Keep.refl {T : Addr} {H : Hp} : Keep T H H := fun _ _ h _ => h
theorem keep_put {T : Addr} {H : Hp} {o : HO} : Keep T H (upd H T o) := fun b u h n => by
  rw [upd_ne n]
  exact h
theorem same_new {H : Hp} {p : Addr} (h : H p = none) (o : HO) : Same H (upd H p o) := fun b u q => by
  rw [upd_ne (ne_of_none q h)]
  exact q
theorem TapeAt.same {H H' : Hp} {T L : Addr} {ns : List Int} {s l : Int} (t : TapeAt H T L ns s l) (a : Same H H') : TapeAt H' T L ns s l := ⟨a _ _ t.d, a _ _ t.c⟩
theorem Tape.same {H H' : Hp} {T L : Addr} {B : Int} (t : Tape H T L B) (a : Same H H') : Tape H' T L B := by
  obtain ⟨ns, s, l, h, r⟩ := t
  exact ⟨ns, s, l, h.same a, r⟩
theorem Tape.put {H : Hp} {T L p : Addr} {o : HO} {B : Int} (t : Tape H T L B) (h1 : p ≠ T) (h2 : p ≠ L) : Tape (upd H p o) T L B := by
  obtain ⟨ns, s, l, h, r⟩ := t
  exact ⟨ns, s, l, ⟨by rw [upd_ne h1.symm]; exact h.d, by rw [upd_ne h2.symm]; exact h.c⟩, r⟩
theorem Tape.nT {H : Hp} {T L p : Addr} {B : Int} (t : Tape H T L B) (h : H p = none) : p ≠ T := fun z => by
  obtain ⟨ns, s, l, a, _⟩ := t
  rw [z, a.d] at h
  cases h
theorem Tape.nL {H : Hp} {T L p : Addr} {B : Int} (t : Tape H T L B) (h : H p = none) : p ≠ L := fun z => by
  obtain ⟨ns, s, l, a, _⟩ := t
  rw [z, a.c] at h
  cases h
theorem Tape.more {H : Hp} {T L : Addr} {B C : Int} (t : Tape H T L B) (h : B ≤ C) : Tape H T L C := by
  obtain ⟨ns, s, l, a, h0, h1, h2⟩ := t
  exact ⟨ns, s, l, a, h0, by omega, h2⟩
theorem Keep.free {T : Addr} {H H' : Hp} (k : Keep T H H') {p : Addr} (h : H' p = none) (n : p ≠ T) : H p = none := by
  cases e : H p with
  | none => rfl
  | some o =>
    rw [k p o e n] at h
    cases h
theorem TapeAt.ne {H : Hp} {T L : Addr} {ns : List Int} {s l : Int} (t : TapeAt H T L ns s l) : L ≠ T := fun z => by
  have e := t.c
  rw [z, t.d] at e
  cases e
theorem TapeAt.put {H : Hp} {T L : Addr} {ns : List Int} {s l s' l' : Int} (t : TapeAt H T L ns s l) : TapeAt (upd H T (.dK (tkv L s' l'))) T L ns s' l' := ⟨upd_same, by rw [upd_ne t.ne]; exact t.c⟩
theorem TapeAt.gS {H : Hp} {T L : Addr} {ns : List Int} {s l : Int} (t : TapeAt H T L ns s l) : DGet H T (.str ("spot" : Str)) (some (.int s)) := DGet.k (k := kS) t.d
theorem TapeAt.gL {H : Hp} {T L : Addr} {ns : List Int} {s l : Int} (t : TapeAt H T L ns s l) : DGet H T (.str ("left" : Str)) (some (.int l)) := DGet.k (k := kL) t.d
theorem TapeAt.gC {H : Hp} {T L : Addr} {ns : List Int} {s l : Int} (t : TapeAt H T L ns s l) : DGet H T (.str ("cells" : Str)) (some (.ref L)) := DGet.k (k := kC) t.d
theorem TapeAt.pS {H : Hp} {T L : Addr} {ns : List Int} {s l v : Int} (t : TapeAt H T L ns s l) : DPut H T (.str ("spot" : Str)) (.int v) (upd H T (.dK (tkv L v l))) := DPut.k (k := kS) (v := .int v) t.d (tkv_len L s l)
theorem TapeAt.pL {H : Hp} {T L : Addr} {ns : List Int} {s l v : Int} (t : TapeAt H T L ns s l) : DPut H T (.str ("left" : Str)) (.int v) (upd H T (.dK (tkv L s v))) := DPut.k (k := kL) (v := .int v) t.d (tkv_len L s l)
/-! ### numbers -/
theorem fm {i j : Int} (h : 0 < j) : 0 ≤ i.fmod j ∧ i.fmod j < j := by
  rw [Int.fmod_eq_emod_of_nonneg _ (by omega)]
  exact ⟨Int.emod_nonneg _ (by omega), Int.emod_lt_of_pos _ h⟩
theorem mul64 {i j : Int} (h1 : 0 ≤ i) (h2 : i < 18446744073709551616) (h3 : 0 ≤ j) (h4 : j < 18446744073709551616) : CMulW i j :=
  wide_mul (a := 64) (b := 64) (by omega) (by omega) (by decide) (by decide) (by decide)
abbrev sevenP : List V := [.int 2147483647, .int 2147483629, .int 2147483587, .int 2147483579, .int 2147483563, .int 2147483549, .int 2147483543]
theorem prime_at {i : Int} (h0 : 0 ≤ i) (h7 : i < 7) : ∃ p : Int, atI sevenP i = some (.int p) ∧ 2147483543 ≤ p ∧ p ≤ 2147483647 := by
  have c : i = 0 ∨ i = 1 ∨ i = 2 ∨ i = 3 ∨ i = 4 ∨ i = 5 ∨ i = 6 := by omega
  rcases c with rfl | rfl | rfl | rfl | rfl | rfl | rfl <;> exact ⟨_, rfl, by decide, by decide⟩
theorem at_in {α : Type} {xs : List α} {i : Int} (h0 : 0 ≤ i) (h : i < (xs.length : Int)) : ∃ v, v ∈ xs ∧ atI xs i = some v := by
  have hk : i.toNat < xs.length := by omega
  have e : i = ((i.toNat : Nat) : Int) := by omega
  refine ⟨xs[i.toNat], List.getElem_mem hk, ?_⟩
  have z := atI_nat (List.getElem?_eq_getElem hk)
  rw [← e] at z
  exact z
theorem at_mod {cs : List Int} (h : 0 < cs.length) (s : Int) : ∃ v : Int, atI (cs.map V.int) (s.fmod ((cs.map V.int).length : Int)) = some (.int v) := by
  have hl : 0 < (((cs.map V.int).length : Nat) : Int) := by
    rw [List.length_map]
    omega
  obtain ⟨v, hv, e⟩ := at_in (xs := cs.map V.int) (fm hl (i := s)).1 (fm hl (i := s)).2
  obtain ⟨z, _, rfl⟩ := List.mem_map.mp hv
  exact ⟨z, e⟩
theorem both_ways {p : Prop} {i : Decidable p} {R : Bool → Prop} (a : R true) (b : R false) : R (@decide p i) := by
  cases @decide p i
  · exact b
  · exact a
theorem less_draw {m : Int} {n : Nat} (hm : 1000000 < m) (h : m.natAbs < 2 ^ (19 * (n + 1))) : 1 ≤ m / 1000000 + 1 ∧ (m / 1000000 + 1).natAbs < 2 ^ (19 * n) := by
  rw [Nat.mul_succ, Nat.pow_add] at h
  have e : (2 : Nat) ^ 19 = 524288 := by decide
  rw [e] at h
  cases n with
  | zero =>
    rw [Nat.mul_zero, Nat.pow_zero] at h
    omega
  | succ j =>
    have g : 2 ^ 19 ≤ 2 ^ (19 * (j + 1)) := Nat.pow_le_pow_right (by decide) (by omega)
    rw [e] at g
    generalize 2 ^ (19 * (j + 1)) = X at g h
    omega
theorem cutR {R G : Prop} (k : R → G) (r : R) : G := k r
/-! ### the two defs -/
def spTape (K : PySem.W.Frag) : Sp := fun vs H Q _ => ∃ (a : Addr) (ns : List Int), vs = [.ref a] ∧ SqL K H a (ns.map V.int) ∧ ∀ (H' : Hp) (T L : Addr), Tape H' T L 0 → Same H H' → H T = none → H L = none → Q (.ref T) H'
def spDraw (n : Nat) : Sp := fun vs H Q _ => ∃ (T L : Addr) (m B : Int), vs = [.ref T, .int m] ∧ 1 ≤ m ∧ m.natAbs < 2 ^ (19 * n) ∧ B + n ≤ 1000000 ∧ Tape H T L B ∧
  ∀ (H' : Hp) (r : Int), 0 ≤ r → r < m → Tape H' T L (B + n) → Keep T H H' → Q (.int r) H'
theorem scTape : FnScope ["_law_script"] ["_law_script"] (defScope sTape) := ⟨rfl, rfl, rfl, by decide +kernel, rfl, by decide +kernel, by decide +kernel⟩
theorem scDraw : FnScope ["_law_tape_here", "_law_many", "_law_found", "_law_spot", "_law_cells", "_law_cell", "_law_primes", "_law_prime", "_law_seed"] ["_law_tape_here", "_law_many"] (defScope sDraw) := ⟨rfl, rfl, rfl, by decide +kernel, rfl, by decide +kernel, by decide +kernel⟩
section
variable {P : Program} {w : World} {K : PySem.W.Frag} {mg : Str → Option Value} {base : Heap} {f : Addr} {fd : FuncData}
theorem cut63 (ns : List Int) : ∃ ms : List Int, cutV (ns.map V.int) none (some 63) = ms.map V.int ∧ ms.length ≤ 63 := by
  refine ⟨ns.take (min 63 ns.length), ?_, by rw [List.length_take]; omega⟩
  unfold cutV
  rw [show HT.sIx (ns.map V.int).length (ns.map V.int).length (some 63) = min 63 (ns.map V.int).length from HT.sIx_nat _ _ 63, HT.sIx_none]
  rw [List.length_map, List.drop_zero, List.map_take]
  rfl
theorem ok_tape {k : Nat} (F : FnP K "_law_tape" sTape f fd) : FnOk P w K mg base CX0 (k + 1) f fd ["_law_script"] (spTape K) := by
  refine F.ok scTape (fun vs H Q E h => ?_) (fun cdv A outer s H vs Q E hr h => ?_)
  · obtain ⟨a, ns, rfl, _⟩ := h
    rfl
  obtain ⟨a, ns, rfl, hS, q⟩ := h
  refine ⟨_, PSs.nox (pss_one (ps_ret (pe_disp (pps_cons pe_str (pe_slice sl_list (pv 0) po_none (po_some pe_int)) (pps_cons pe_str pe_int (pps_cons pe_str pe_int pps_nil))) (by rfl) (by rfl) (fun z => by cases z) (by decide)))), ?_⟩
  refine fun p np => ⟨.ref a, rfl, ?_⟩
  have s1 : Same H (upd H p (.dK [])) := same_new np _
  refine ⟨63, rfl, a, _, rfl, s1.seq hS, fun c nc => ?_⟩
  have s2 := same_new nc (.lst (cutV (ns.map V.int) none (some 63)))
  have ncp : p ≠ c := fun e => by
    rw [← e, upd_same] at nc
    cases nc
  obtain ⟨ms, em, lm⟩ := cut63 ns
  refine ⟨by rw [upd_ne ncp, upd_same], [(kC, .ref c), (kS, .int 0), (kL, .int 0)], rfl, (by show 3 ≤ 15; decide), ?_⟩
  refine q _ p c ⟨ms, 0, 0, ⟨?_, ?_⟩, Int.le_refl 0, Int.le_refl 0, lm⟩ ?_ np (s1.free nc)
  · rw [upd_same]
    rfl
  · rw [upd_ne ncp.symm, upd_same, em]
  · intro b o h
    have hb : b ≠ p := ne_of_none h np
    rw [upd_ne hb]
    exact s2 _ _ (s1 _ _ h)
theorem or_cells {σ : L2.St} {H : Hp} {T L : Addr} {ns : List Int} {s l : Int} (e0 : σ[0]? = some (some (.ref T))) (t : TapeAt H T L ns s l) (hn : ns.length ≤ 63) :
    ∀ Q : VK, (∀ (C : Addr) (cs : List Int) (H2 : Hp), SqL K H2 C (cs.map V.int) → 0 < cs.length → cs.length ≤ 63 → Same H H2 → Q (.ref C) H2) →
      tOrT K (tDGet (tVar 0) (tC (.str ("cells" : Str)))) (tLst (tCons (tC (.int 0)) tNil)) σ H Q := fun Q q => by
  refine ⟨_, e0, T, _, rfl, t.gC, !(ns.map V.int).isEmpty, .inl ⟨_, SqL.of t.c, rfl⟩, ?_⟩
  cases ns with
  | nil =>
    refine iteF ?_
    exact ⟨(by show 1 ≤ sizeLine; decide), fun p np => q p [0] _ (SqL.of upd_same) (by decide) (by decide) (same_new np _)⟩
  | cons x r =>
    refine iteT ?_
    exact q L (x :: r) _ (SqL.of t.c) (by simp) hn (Same.refl _)
theorem ok_draw {n : Nat} (hn : n ≤ 20) (F : FnP K "_law_draw" sDraw f fd) (G : FnOk P w K mg base CX0 n f fd ["_law_tape_here", "_law_many"] (spDraw n)) (b : Binds K fd ["_law_tape_here", "_law_many"] []) (gD : mg "_law_draw" = some (.ref f)) (ml : mg "len" = none) :
    FnOk P w K mg base CX0 (n + 1) f fd ["_law_tape_here", "_law_many"] (spDraw (n + 1)) := by
  refine F.ok scDraw (fun vs H Q E h => ?_) (fun cdv A outer s H vs Q E hr h => ?_)
  · obtain ⟨T, L, m, B, rfl, _⟩ := h
    rfl
  obtain ⟨T, L, m, B, rfl, hm1, hm2, hB, hT, q⟩ := h
  have hu := hu_of hr
  refine ⟨_, PSs.nox (pss_cons (ps_if (pt_cmpR op_gt (pe_dget hu (pv 0) pe_str (fun _ _ => rfl)) pe_int (nomark _))
 (pss_cons (ps_set (i := 2) scDraw.nd rfl (Or.inl rfl) (pe_op op_modN (pe_dget hu (pv 0) pe_str (fun _ _ => rfl)) (pv 1)))
 (pss_cons (ps_dput hu (pv 0) pe_str (pe_op op_fdivW (pe_dget hu (pv 0) pe_str (fun _ _ => rfl)) (pv 1)) rfl)
 (pss_one (ps_ret (pv 2))))) pss_nil)
 (pss_cons (ps_set (i := 3) scDraw.nd rfl (Or.inl rfl) (pe_dget hu (pv 0) pe_str (fun _ _ => rfl)))
 (pss_cons (ps_dput hu (pv 0) pe_str (pe_op op_add (pv 3) pe_int) rfl)
 (pss_cons (ps_set (i := 4) scDraw.nd rfl (Or.inl rfl) (pe_orT (pe_dget hu (pv 0) pe_str (fun _ _ => rfl)) (pe_one (pe_lst (pa_cons pe_int pa_nil)))))
 (pss_cons (ps_set (i := 5) scDraw.nd rfl (Or.inl rfl) (pe_ix ix_list (pv 4) (pe_op op_modN (pv 3) (pe_callB call_len_seq (by rfl) ml PySem.boot_len (pa_cons (pv 4) pa_nil))) (fun _ _ => rfl)))
 (pss_cons (ps_if (PW.pt (pw_and (pt_cmpR op_ge (pv 5) (pe_op op_pow pe_int pe_int) (nomark _)) (pw_and1 (pt_cmpR op_lt (pv 3) (pe_callB call_len_seq (by rfl) ml PySem.boot_len (pa_cons (pv 4) pa_nil)) (nomark _)))))
 (pss_cons (ps_dput hu (pv 0) pe_str (pe_op op_fdivW (pe_op op_sub (pv 5) (pe_op op_pow pe_int pe_int)) (pv 1)) rfl)
 (pss_one (ps_ret (pe_op op_modN (pe_op op_sub (pv 5) (pe_op op_pow pe_int pe_int)) (pv 1))))) pss_nil)
 (pss_cons (ps_set (i := 6) scDraw.nd rfl (Or.inl rfl) (pe_lst (pa_cons pe_int (pa_cons pe_int (pa_cons pe_int (pa_cons pe_int (pa_cons pe_int (pa_cons pe_int (pa_cons pe_int pa_nil)))))))))
 (pss_cons (ps_set (i := 7) scDraw.nd rfl (Or.inl rfl) (pe_ix ix_list (pv 6) (pe_op op_modN (pv 3) pe_int) (fun _ _ => rfl)))
 (pss_cons (ps_set (i := 8) scDraw.nd rfl (Or.inl rfl) (pe_op op_modN (pe_op op_add (pe_op op_add (pe_op op_add (pe_op op_mulW (pe_op op_modN (pv 5) (pv 7)) pe_int) (pe_op op_mulW (pe_op op_mulW pe_int (pv 3)) (pv 3))) (pe_op op_mulW pe_int (pv 3))) pe_int) (pv 7)))
 (pss_cons (ps_set (i := 8) scDraw.nd rfl (Or.inl rfl) (pe_op op_modN (pe_op op_mulW (pv 8) (pe_op op_add (pv 8) pe_int)) (pe_ix ix_list (pv 6) (pe_op op_modN (pe_op op_add (pv 3) pe_int) pe_int) (fun _ _ => rfl))))
 (pss_cons (ps_set (i := 2) scDraw.nd rfl (Or.inl rfl) (pe_op op_fdivW (pe_op op_modN (pe_op op_mulW (pv 8) (pv 8)) (pv 7)) pe_int))
 (pss_cons (ps_if (pt_cmpR op_gt (pv 1) (pe_op op_pow pe_int pe_int) (nomark _))
 (pss_one (ps_set (i := 2) scDraw.nd rfl (Or.inl rfl) (pe_op op_add (pe_op op_modN (pv 2) (pe_op op_pow pe_int pe_int)) (pe_op op_mul (pe_op op_pow pe_int pe_int) (pe_call G hr (by rfl) gD F.kp b .nil pass0 (pa_cons (pv 0) (pa_cons (pe_op op_add (pe_op op_fdivW (pv 1) (pe_op op_pow pe_int pe_int)) pe_int) pa_nil))))))) pss_nil)
 (pss_one (ps_ret (pe_op op_modN (pv 2) (pv 1)))))))))))))))), ?_⟩
  obtain ⟨ns, s0, l, ht, h0, hB1, hlen⟩ := hT
  have hdv : ∀ i : Int, CDivW i m := fun i => wide_div (b := 19 * (n + 1)) (by omega) hm2 (by omega) (by omega)
  have hm0 : m ≠ 0 := by omega
  have hmp : 0 < m := by omega
  have hBn : B + ((n + 1 : Nat) : Int) = B + n + 1 := by omega
  rw [hBn] at q
  -- the number kept
  refine ⟨_, rfl, T, _, rfl, ht.gL, _, _, rfl, rfl, _, rfl, ite2 (fun c => ?_) (fun c => ?_)⟩
  · refine ⟨_, rfl, T, _, rfl, ht.gL, _, rfl, _, _, rfl, rfl, hm0, ?_⟩
    refine ⟨_, rfl, T, _, rfl, ht.gL, _, rfl, _, _, rfl, rfl, hdv _, _, rfl, T, _, rfl, ht.pL, _, rfl, ?_⟩
    exact q _ _ (fm hmp).1 (fm hmp).2 ⟨ns, s0, l / m, ht.put, h0, by omega, hlen⟩ keep_put
  -- a cell
  refine ⟨_, rfl, T, _, rfl, ht.gS, ?_⟩
  refine ⟨_, rfl, _, _, rfl, rfl, _, rfl, T, _, rfl, ht.pS, ?_⟩
  have t1 : TapeAt (upd H T (.dK (tkv L (s0 + 1) l))) T L ns (s0 + 1) l := ht.put
  refine or_cells rfl t1 hlen _ (fun C cs H2 hC hc1 hc2 sm => ?_)
  have t2 := t1.same sm
  have k2 : Keep T H H2 := Keep.trans keep_put (Keep.of sm)
  have hcl : ((cs.map V.int).length : Int) ≠ 0 := by
    rw [List.length_map]
    omega
  obtain ⟨cell, hcell⟩ := at_mod hc1 s0
  refine ⟨_, rfl, _, rfl, _, rfl, C, _, rfl, .inl hC, _, _, rfl, rfl, hcl, C, _, _, _, rfl, rfl, hC, hcell, ?_⟩
  have cp : CPow 10 18 := ⟨by decide, by decide, by decide⟩
  have cp6 : CPow 10 6 := ⟨by decide, by decide, by decide⟩
  apply cutR
  case k =>
    intro rest
    refine ⟨_, rfl, _, _, rfl, rfl, cp, _, _, rfl, rfl, _, rfl, ite2 (fun _ => ⟨_, rfl, _, rfl, C, _, rfl, .inl hC, _, _, rfl, rfl, _, rfl, ite2 (fun _ => ?ka) (fun _ => ?kb)⟩) (fun _ => ?kc)⟩
    case kb => exact rest
    case kc => exact iteF rest
    case ka =>
      refine ⟨_, rfl, _, _, rfl, rfl, cp, _, _, rfl, rfl, _, rfl, _, _, rfl, rfl, hdv _, _, rfl, T, _, rfl, t2.pL, ?_⟩
      refine ⟨_, rfl, _, _, rfl, rfl, cp, _, _, rfl, rfl, _, rfl, _, _, rfl, rfl, hm0, ?_⟩
      exact q _ _ (fm hmp).1 (fm hmp).2 ⟨ns, s0 + 1, _, t2.put, by omega, by omega, hlen⟩ (k2.trans keep_put)
  refine ⟨(by show 7 ≤ sizeLine; decide), fun p np => ?_⟩
  have sp := same_new np (.lst sevenP)
  have t3 := t2.same sp
  have k3 := k2.trans (Keep.of sp)
  have hp : SqL K (upd H2 p (.lst sevenP)) p sevenP := SqL.of upd_same
  obtain ⟨pr, e1, b1, b2⟩ := prime_at (fm (i := s0) (show (0 : Int) < 7 by decide)).1 (fm (show (0 : Int) < 7 by decide)).2
  obtain ⟨p2, e2, b3, b4⟩ := prime_at (fm (i := s0 + 3) (show (0 : Int) < 7 by decide)).1 (fm (show (0 : Int) < 7 by decide)).2
  have h7 : (7 : Int) ≠ 0 := by decide
  have pr0 : pr ≠ 0 := by omega
  have p20 : p2 ≠ 0 := by omega
  have prp : 0 < pr := by omega
  have p2p : 0 < p2 := by omega
  -- prime
  refine ⟨_, rfl, _, rfl, _, _, rfl, rfl, h7, p, _, _, _, rfl, rfl, hp, e1, ?_⟩
  -- seed
  have hs := hB1
  refine ⟨_, rfl, _, rfl, _, _, rfl, rfl, pr0, _, _, rfl, rfl, mul64 (fm prp).1 (by have := (fm (i := cell) prp).2; omega) (by decide) (by decide), _, rfl, _, _, rfl, rfl, mul64 (by decide) (by decide) h0 (by omega), _, rfl, _, _, rfl, rfl,
    mul64 (by omega) (by omega) h0 (by omega), _, _, rfl, rfl, _, rfl, _, _, rfl, rfl, mul64 (by decide) (by decide) h0 (by omega), _, _, rfl, rfl, _, _, rfl, rfl, _, rfl, _, _, rfl, rfl, pr0, ?_⟩
  have z1 := fm (i := cell.fmod pr * 48271 + 7919 * s0 * s0 + 69621 * s0 + 1) prp
  refine ⟨_, rfl, _, rfl, _, _, rfl, rfl, _, _, rfl, rfl, mul64 z1.1 (by omega) (by omega) (by omega), _, rfl, _, rfl, _, _, rfl, rfl, _, _, rfl, rfl, h7, p, _, _, _, rfl, rfl, hp, e2, _, _, rfl, rfl, p20, ?_⟩
  have z2 := fm (i := (cell.fmod pr * 48271 + 7919 * s0 * s0 + 69621 * s0 + 1).fmod pr * ((cell.fmod pr * 48271 + 7919 * s0 * s0 + 69621 * s0 + 1).fmod pr + 16807)) p2p
  refine ⟨_, rfl, _, rfl, _, _, rfl, rfl, mul64 z2.1 (by omega) z2.1 (by omega), _, rfl, _, _, rfl, rfl, pr0, _, _, rfl, rfl, wide_div (b := 7) (by decide) (by decide) (by decide) (by decide), ?_⟩
  have e6 : (10 : Int) ^ (6 : Int).toNat = 1000000 := by decide
  have n6 : (10 : Int) ^ (6 : Int).toNat ≠ 0 := by decide
  have d6 : ∀ i : Int, CDivW i ((10 : Int) ^ (6 : Int).toNat) := fun i => wide_div (b := 20) (by decide) (by decide) (by decide) (by decide)
  refine ⟨_, rfl, _, _, rfl, rfl, cp6, _, _, rfl, rfl, _, rfl, ite2 (fun c => ?_) (fun c => ?_)⟩
  · have c' : 1000000 < m := by
      have c2 := of_decide_eq_true c
      rw [e6] at c2
      exact c2
    obtain ⟨l1, l2⟩ := less_draw c' hm2
    rw [← e6] at l1 l2
    refine ⟨_, rfl, _, _, rfl, rfl, cp6, _, _, rfl, rfl, n6, _, _, rfl, rfl, cp6, _, rfl, _, rfl, _, _, rfl, rfl, cp6, _, _, rfl, rfl, d6 _, _, _, rfl, rfl, ?_⟩
    refine ⟨T, L, _, B + 1, rfl, l1, l2, by omega, ⟨ns, s0 + 1, l, t3, by omega, by omega, hlen⟩, fun H3 r r0 r1 t4 k4 => ?_⟩
    refine ⟨_, _, rfl, rfl, .inl ⟨by decide, by decide⟩, _, _, rfl, rfl, ?_⟩
    refine ⟨_, rfl, _, rfl, _, _, rfl, rfl, hm0, ?_⟩
    exact q _ _ (fm hmp).1 (fm hmp).2 (t4.more (by omega)) (k3.trans k4)
  · refine ⟨_, rfl, _, rfl, _, _, rfl, rfl, hm0, ?_⟩
    exact q _ _ (fm hmp).1 (fm hmp).2 ⟨ns, s0 + 1, l, t3, by omega, by omega, hlen⟩ k3
theorem no_draw : FnOk P w K mg base CX0 0 f fd ["_law_tape_here", "_law_many"] (spDraw 0) := by
  have no : ∀ vs H Q E, ¬ spDraw 0 vs H Q E := fun vs H Q E h => by
    obtain ⟨T, L, m, B, _, h1, h2, _⟩ := h
    have h3 : m.natAbs < 1 := h2
    omega
  exact ⟨fun vs H Q E h => absurd h (no vs H Q E), fun A outer s H args us vs Q E _ _ _ _ h => absurd h (no vs H Q E)⟩
theorem all_draw (F : FnP K "_law_draw" sDraw f fd) (b : Binds K fd ["_law_tape_here", "_law_many"] []) (gD : mg "_law_draw" = some (.ref f)) (ml : mg "len" = none) :
    ∀ n : Nat, n ≤ 20 → FnOk P w K mg base CX0 n f fd ["_law_tape_here", "_law_many"] (spDraw n)
  | 0, _ => no_draw
  | n + 1, h => ok_draw (by omega) F (all_draw F b gD ml n (by omega)) b gD ml
end
end My

set_option maxRecDepth 100000
set_option maxHeartbeats 4000000
namespace My
open PySem PySem.Spec PyProof.Rows L2
abbrev sWords : Stmt := top 16
theorem scWords : FnScope ["_law_tape_here", "_law_many", "_law_letters", "_law_own", "_law_k", "_law_base", "_law_found", "_law_letter", "_law_some", "_law_word", "_law_more"] ["_law_tape_here", "_law_many"] (defScope sWords) := ⟨rfl, rfl, rfl, by decide +kernel, rfl, by decide +kernel, by decide +kernel⟩
abbrev abc : Str := "abcdefghijklmnopqrstuvwxyz"
def own8 : List Str := Txt.split ("nota andy org isa yesno given noa same" : Str) (" " : Str)
theorem own8_len : own8.length = 8 := by decide +kernel
theorem own8_le : ∀ z ∈ own8, z.length ≤ 8 := by decide +kernel
theorem join_le : ∀ ys : List Str, (∀ z ∈ ys, z.length ≤ 1) → (Str.join ("" : Str) ys).length ≤ ys.length
  | [], _ => Nat.le_refl _
  | [x], h => h x (List.mem_singleton_self x)
  | x :: y :: r, h => by
    have e : Str.join ("" : Str) (x :: y :: r) = x ++ ("" : Str) ++ Str.join ("" : Str) (y :: r) := rfl
    have i := join_le (y :: r) (fun z hz => h z (List.mem_cons_of_mem _ hz))
    have g := h x List.mem_cons_self
    have z0 : (("" : Str)).length = 0 := by decide
    rw [e, strLen_append, strLen_append, z0, List.length_cons]
    omega
theorem sum_le : ∀ ys : List Str, (∀ z ∈ ys, z.length ≤ 1) → (ys.map (fun x => x.length)).sum ≤ ys.length
  | [], _ => Nat.le_refl _
  | x :: r, h => by
    have i := sum_le r (fun z hz => h z (List.mem_cons_of_mem _ hz))
    have g := h x List.mem_cons_self
    rw [List.map_cons, List.sum_cons, List.length_cons]
    omega
theorem one_len (c : Nat) : (⟨#[c]⟩ : Str).length = 1 := rfl
theorem cut_le {z : Str} {k : Nat} : (cutS z none (some (k : Int))).length ≤ k := by
  unfold cutS
  show ((z.cps.toList.drop _).take _).toArray.size ≤ k
  rw [List.size_toArray, List.length_take, HT.sIx_nat, HT.sIx_none]
  omega
theorem cut8 (z : Str) : (cutS z none (some 8)).length ≤ 8 := cut_le (k := 8)
theorem cut7 (z : Str) : (cutS z none (some 7)).length ≤ 7 := cut_le (k := 7)
theorem abc_at {r : Int} (h0 : 0 ≤ r) (h1 : r < 26) : ∃ c, atI abc.cps.toList r = some c := by
  have e : abc.cps.toList.length = 26 := by decide +kernel
  obtain ⟨c, _, h⟩ := at_in (xs := abc.cps.toList) h0 (by rw [e]; exact h1)
  exact ⟨c, h⟩
theorem flat_strs (ws : List Str) : (ws.map V.str).all flatV = true := by
  rw [List.all_map]
  exact List.all_eq_true.mpr fun _ _ => rfl
theorem small {n : Nat} (h : n ≤ 1000) : n ≤ sizeLine := Nat.le_of_lt (small1000 h)
def spWords (K : PySem.W.Frag) : Sp := fun vs H Q _ => ∃ (T L : Addr) (n : Nat) (B : Int), vs = [.ref T, .int n] ∧ n ≤ 12 ∧ B + 2000 ≤ 1000000 ∧ Tape H T L B ∧
  ∀ (H' : Hp) (p : Addr) (ws : List Str), ws.length = n → (∀ z ∈ ws, z.length ≤ 8) → H' p = some (.lst (ws.map V.str)) → H p = none → Tape H' T L (B + 1000) → Keep T H H' → Q (.ref p) H'
section
variable {P : Program} {w : World} {K : PySem.W.Frag} {mg : Str → Option Value} {base : Heap} {f fD : Addr} {fd fdD : FuncData}
theorem ok_words {k : Nat} (hk : 11 ≤ k) (F : FnP K "_law_words" sWords f fd) (G : FnOk P w K mg base CX0 11 fD fdD ["_law_tape_here", "_law_many"] (spDraw 11)) (b : Binds K fdD ["_law_tape_here", "_law_many"] []) (gD : mg "_law_draw" = some (.ref fD)) (kD : PySem.W.keepIn K (.ref fD) = true) (mr : mg "range" = none) :
    FnOk P w K mg base CX0 (k + 1) f fd ["_law_tape_here", "_law_many"] (spWords K) := by
  refine F.ok scWords (fun vs H Q E h => ?_) (fun cdv A outer s H vs Q E hr0 h => ?_)
  · obtain ⟨T, L, n, B, rfl, _⟩ := h
    rfl
  obtain ⟨T, L, n, B, rfl, hn, hB, hT, q⟩ := h
  have hu := hu_of hr0
  have hr : Room 11 _ := hr0.mono hk
  refine ⟨_, PSs.nox (pss_cons (ps_set (i := 2) scWords.nd rfl (Or.inr rfl) pe_str)
 (pss_cons (ps_set (i := 3) scWords.nd rfl (Or.inl rfl) (pe_split pe_str pe_str))
 (pss_cons (ps_set (i := 5) scWords.nd rfl (Or.inl rfl) (pe_join pe_str (pe_lc (own := [("_law_k", 4)]) (g := gName 4) (tt := tYes) (by rfl) scWords.nd (pi_range1 (by rfl) mr (pa_cons (pe_op op_add pe_int (pe_call G hr (by rfl) gD kD b .nil pass0 (pa_cons (pv 0) (pa_cons pe_int pa_nil)))) pa_nil)) (blkOk_by (own := [("_law_k", 4)]) (N := ["_law_tape_here", "_law_many", "_law_letters", "_law_own", "_law_k", "_law_base", "_law_found", "_law_letter", "_law_some", "_law_word", "_law_more"]) (sc := defScope sWords) (by decide +kernel)) (fun _ _ _ _ _ => pg_name (i := 4) scWords.nd rfl (Or.inl rfl)) (fun _ _ _ _ _ => pts_nil) (fun _ _ _ _ _ => (pe_ix ix_str (pv 2) (pe_call G hr (by rfl) gD kD b .nil pass0 (pa_cons (pv 0) (pa_cons pe_int pa_nil))) (fun _ _ => rfl))))))
 (pss_cons (ps_set (i := 6) scWords.nd rfl (Or.inl rfl) (pe_lst pa_nil))
 (pss_cons (ps_for PassesOwn.never rfl (pi_range1 (by rfl) mr (pa_cons (pv 1) pa_nil)) (pg_name (i := 4) scWords.nd rfl (Or.inl rfl))
 (pss_cons (ps_set (i := 7) scWords.nd rfl (Or.inl rfl) (pe_ix ix_str (pv 2) (pe_call G hr (by rfl) gD kD b .nil pass0 (pa_cons (pv 0) (pa_cons pe_int pa_nil))) (fun _ _ => rfl)))
 (pss_cons (ps_set (i := 8) scWords.nd rfl (Or.inl rfl) (pe_lst (pa_cons (pv 5) (pa_cons (pe_op op_add_str (pv 5) (pv 7)) (pa_cons (pe_op op_add_str (pv 7) (pv 5)) (pa_cons (pv 7) (pa_cons (pe_op op_add_str (pe_op op_add_str (pv 5) (pv 7)) (pv 7)) (pa_cons (pe_ix ix_list (pv 3) (pe_call G hr (by rfl) gD kD b .nil pass0 (pa_cons (pv 0) (pa_cons pe_int pa_nil))) (fun _ _ => rfl)) pa_nil))))))))
 (pss_cons (ps_set (i := 9) scWords.nd rfl (Or.inl rfl) (pe_slice sl_str (pe_ix ix_list (pv 8) (pe_call G hr (by rfl) gD kD b .nil pass0 (pa_cons (pv 0) (pa_cons pe_int pa_nil))) (fun _ _ => rfl)) po_none (po_some pe_int)))
 (pss_cons (ps_for PassesOwn.never rfl (pi_str (pv 2)) (pg_name (i := 10) scWords.nd rfl (Or.inl rfl))
 (pss_one (ps_if (PW.pt (pw_or (pt_cmpR op_in_seq (pv 9) (pv 6) rfl) (pw_or1 (pt_cmpR op_in_seq (pv 9) (pe_tup (pa_cons pe_str (pa_cons pe_str (pa_cons pe_str (pa_cons pe_str (pa_cons pe_str (pa_cons pe_str (pa_cons pe_str pa_nil)))))))) rfl))))
 (pss_one (ps_set (i := 9) scWords.nd rfl (Or.inl rfl) (pe_op op_add_str (pe_slice sl_str (pv 9) po_none (po_some pe_int)) (pv 10)))) pss_nil)))
 (pss_one (ps_expr (pe_bm PySem.F.plainAttrs_list PySem.F.slot_list_append PySem.F.type_list_append mt_append (pv 6) (pa_cons (pv 9) pa_nil)))))))))
 (pss_one (ps_ret (pv 6)))))))), ?_⟩
  have habc : abc.length ≤ sizeLine := by decide +kernel
  refine ⟨⟨_, rfl⟩, _, _, rfl, rfl, (by decide +kernel), (by decide +kernel), fun pO nO => ?_⟩
  have sO : Same H (upd H pO (.lst (own8.map V.str))) := same_new nO _
  have tO := hT.same sO
  have oT : pO ≠ T := hT.nT nO
  have oL : pO ≠ L := hT.nL nO
  -- base
  refine ⟨⟨_, rfl⟩, _, rfl, T, L, 6, B, rfl, by decide, by decide, by omega, tO, fun H1 r r0 r1 t1 k1 => ?_⟩
  have e1 : H1 pO = some (.lst (own8.map V.str)) := k1 _ _ upd_same oT
  refine ⟨_, _, rfl, rfl, _, rfl, by omega, by omega, fun D nD => lc_range (lo := 0) (n := (1 + r).toNat) (fun i H' => ∃ ws : List Str, H' D = some (.lst (ws.map V.str)) ∧ ws.length = i ∧ (∀ z ∈ ws, z.length ≤ 1) ∧
    Tape H' T L (B + 11 + 11 * i) ∧ Keep T H H' ∧ H' pO = some (.lst (own8.map V.str))) ?_ ?_ ?_⟩
  · refine ⟨[], upd_same, rfl, (fun z hz => by cases hz), (t1.same (same_new nD _)).more (by omega), ((Keep.of sO).trans k1).trans (Keep.of (same_new nD _)), same_new nD _ _ _ e1⟩
  · rintro i H2 hi ⟨ws, eD, hl, hz, tp, kp, eO⟩
    have dT : D ≠ T := t1.nT nD
    have dL : D ≠ L := t1.nL nD
    refine ⟨rfl, ?_⟩
    refine ⟨_, rfl, _, rfl, T, L, 26, _, rfl, by decide, by decide, by omega, tp, fun H3 r3 a0 a1 t3 k3 => ?_⟩
    obtain ⟨c, hc⟩ := abc_at a0 a1
    have dO : pO ≠ D := ne_of_none e1 nD
    refine ⟨_, _, c, rfl, rfl, habc, hc, _, k3 _ _ eD dT, (by rw [List.length_map]; exact small1000 (by omega)), ws ++ [⟨#[c]⟩], ?_, ?_, ?_, (t3.put dT dL).more (by omega), ?_, ?_⟩
    · rw [upd_same, List.map_append]
      rfl
    · rw [List.length_append, hl]
      rfl
    · intro z hz'
      rcases List.mem_append.mp hz' with h | h
      · exact hz z h
      · rw [List.mem_singleton.mp h]
        exact Nat.le_refl _
    · intro b o h n
      have hb : b ≠ D := fun z => by
        have y : H1 b = some o := k1 _ _ (sO _ _ h) n
        rw [z, nD] at y
        cases y
      rw [upd_ne hb]
      exact k3 _ _ (kp _ _ h n) n
    · rw [upd_ne dO]
      exact k3 _ _ eO oT
  rintro H2 ⟨bs, eD, hl, hz, t2, k2, e2⟩
  have hbs : bs.length ≤ 7 := by omega
  refine ⟨_, D, bs, rfl, rfl, .inl (SqL.of eD), ?_, ?_⟩
  · have z0 : (("" : Str)).length = 0 := by decide
    have y := sum_le bs hz
    rw [z0]
    omega
  have hbl : (Txt.join ("" : Str) bs).length ≤ 7 := by
    rw [TL.join_eq]
    exact Nat.le_trans (join_le bs hz) hbs
  generalize Txt.join ("" : Str) bs = bse at hbl
  -- found = []
  refine ⟨Nat.zero_le _, fun pF nF => ?_⟩
  have fT : pF ≠ T := t2.nT nF
  have fL : pF ≠ L := t2.nL nF
  have fO : pO ≠ pF := ne_of_none e2 nF
  have nF0 : H pF = none := k2.free nF fT
  have s2 := same_new nF (.lst [])
  have hn2 : ((n : Nat) : Int).toNat = n := Int.toNat_natCast n
  refine ⟨_, rfl, _, rfl, by omega, by omega, for_range (lo := 0) (n := ((n : Nat) : Int).toNat) (fun i σ H' => ∃ (kk l sm wd mo : Option V) (ws : List Str),
    σ = [some (.ref T), some (.int n), some (.str abc), some (.ref pO), kk, some (.str bse), some (.ref pF), l, sm, wd, mo] ∧ ws.length = i ∧ (∀ z ∈ ws, z.length ≤ 8) ∧
    H' pF = some (.lst (ws.map V.str)) ∧ H' pO = some (.lst (own8.map V.str)) ∧ Tape H' T L (B + 100 + 33 * i) ∧ Keep T H H') ?_ ?_ ?_⟩
  · exact ⟨_, _, _, _, _, [], rfl, rfl, (fun z hz => by cases hz), upd_same, s2 _ _ e2, (t2.same s2).more (by omega), k2.trans (Keep.of s2)⟩
  · rintro i σ H3 hi ⟨kk, l, sm, wd, mo, ws, rfl, hl, hw, eF, eO, tp, kp⟩
    have hwn : ws.length ≤ 12 := by omega
    -- letter
    refine ⟨_, rfl, _, rfl, T, L, 26, _, rfl, by decide, by decide, by omega, tp, fun H4 r4 a0 a1 t4 k4 => ?_⟩
    obtain ⟨c, hc⟩ := abc_at a0 a1
    refine ⟨_, _, c, rfl, rfl, habc, hc, ?_⟩
    have l1 : (⟨#[c]⟩ : Str).length = 1 := rfl
    have z1 : bse.length + (⟨#[c]⟩ : Str).length ≤ sizeLine := small (by omega)
    have z2 : (⟨#[c]⟩ : Str).length + bse.length ≤ sizeLine := small (by omega)
    have z3 : (bse ++ (⟨#[c]⟩ : Str)).length + (⟨#[c]⟩ : Str).length ≤ sizeLine := by
      rw [strLen_append]
      exact small (by omega)
    refine ⟨_, rfl, _, rfl, _, rfl, _, _, rfl, rfl, z1, _, rfl, _, rfl, _, _, rfl, rfl, z2, _, rfl, _, rfl, _, rfl, _, _, rfl, rfl, z1, _, rfl, _, _, rfl, rfl, z3, ?_⟩
    refine ⟨_, rfl, _, rfl, T, L, 8, _, rfl, by decide, by decide, by omega, t4, fun H5 r5 a2 a3 t5 k5 => ?_⟩
    have eO5 := k5 _ _ (k4 _ _ eO oT) oT
    have eF5 := k5 _ _ (k4 _ _ eF fT) fT
    obtain ⟨vo, ho1, ho2⟩ := at_in (xs := own8.map V.str) a2 (by rw [List.length_map, own8_len]; exact a3)
    obtain ⟨o1, ho3, rfl⟩ := List.mem_map.mp ho1
    refine ⟨pO, _, _, _, rfl, rfl, SqL.of eO5, ho2, (by show 6 ≤ sizeLine; decide), fun pS nS => ?_⟩
    have s5 := same_new nS (.lst [.str bse, .str (bse ++ (⟨#[c]⟩ : Str)), .str ((⟨#[c]⟩ : Str) ++ bse), .str ⟨#[c]⟩, .str (bse ++ (⟨#[c]⟩ : Str) ++ (⟨#[c]⟩ : Str)), .str o1])
    -- word
    refine ⟨_, rfl, _, rfl, T, L, 6, _, rfl, by decide, by decide, by omega, t5.same s5, fun H6 r6 a4 a5 t6 k6 => ?_⟩
    have sT : pS ≠ T := t5.nT nS
    have eS6 := k6 _ _ upd_same sT
    have eO6 := k6 _ _ (s5 _ _ eO5) oT
    have eF6 := k6 _ _ (s5 _ _ eF5) fT
    have k06 : Keep T H H6 := (((kp.trans k4).trans k5).trans (Keep.of s5)).trans k6
    have six : ∃ z : Str, atI ([.str bse, .str (bse ++ (⟨#[c]⟩ : Str)), .str ((⟨#[c]⟩ : Str) ++ bse), .str ⟨#[c]⟩, .str (bse ++ (⟨#[c]⟩ : Str) ++ (⟨#[c]⟩ : Str)), .str o1] : List V) r6 = some (.str z) ∧ z.length ≤ 16 := by
      have g := own8_le o1 ho3
      have c6 : r6 = 0 ∨ r6 = 1 ∨ r6 = 2 ∨ r6 = 3 ∨ r6 = 4 ∨ r6 = 5 := by omega
      rcases c6 with rfl | rfl | rfl | rfl | rfl | rfl
      · exact ⟨_, rfl, by omega⟩
      · exact ⟨_, rfl, by rw [strLen_append]; omega⟩
      · exact ⟨_, rfl, by rw [strLen_append]; omega⟩
      · exact ⟨_, rfl, by omega⟩
      · exact ⟨_, rfl, by rw [strLen_append, strLen_append]; omega⟩
      · exact ⟨_, rfl, by omega⟩
    obtain ⟨z, hz1, hz2⟩ := six
    refine ⟨pS, _, _, _, rfl, rfl, SqL.of eS6, hz1, 8, rfl, z, rfl, small (by omega), ?_⟩
    have zl := cut8 z
    generalize cutS z none (some 8) = wd0 at zl
    -- for more in letters
    refine ⟨_, rfl, _, rfl, for_it walk_str (fun j σ H' => ∃ (wd : Str) (mo : Option V), σ = [some (.ref T), some (.int n), some (.str abc), some (.ref pO), some (.int (0 + i)), some (.str bse), some (.ref pF), some (.str ⟨#[c]⟩), some (.ref pS), some (.str wd), mo] ∧ wd.length ≤ 8 ∧ Same H6 H') ?_ (fun _ _ _ _ _ => trivial) ?_ ?_⟩
    · exact ⟨wd0, mo, rfl, zl, Same.refl _⟩
    · rintro j x σ H7 H8 hj ⟨wd1, mo1, rfl, wl, sm7⟩ ⟨rfl, c2, hc2, rfl⟩
      have eF7 := sm7 _ _ eF6
      refine ⟨_, rfl, _, rfl, pF, _, rfl, .inl (SqL.of eF7), rfl, flat_strs ws, _, rfl, ?_⟩
      have y1 : (cutS wd1 none (some 7)).length + (⟨#[c2]⟩ : Str).length ≤ 8 := by
        have := cut7 wd1
        have e : (⟨#[c2]⟩ : Str).length = 1 := rfl
        omega
      refine ite2 (fun _ => ?_) (fun _ => ?_)
      · refine iteT ?_
        refine ⟨_, rfl, 7, rfl, _, rfl, small (by omega), _, rfl, _, _, rfl, rfl, small (by omega), _, _, rfl, (by rw [strLen_append]; exact y1), sm7⟩
      · refine ⟨_, rfl, (by show 7 ≤ sizeLine; decide), fun pT nT => ⟨pT, _, rfl, .inr (SqT.of upd_same), rfl, (by decide), _, rfl, ?_⟩⟩
        have s8 := same_new nT (.tup [.str "not", .str "and", .str "or", .str "gives", .str "is", .str "yes", .str "no"])
        refine ite2 (fun _ => ?_) (fun _ => ?_)
        · refine ⟨_, rfl, 7, rfl, _, rfl, small (by omega), _, rfl, _, _, rfl, rfl, small (by omega), _, _, rfl, (by rw [strLen_append]; exact y1), sm7.trans s8⟩
        · exact ⟨wd1, _, rfl, wl, sm7.trans s8⟩
    · rintro σ H7 ⟨wd1, mo1, rfl, wl, sm7⟩
      have eF7 := sm7 _ _ eF6
      refine ⟨_, rfl, .inl ⟨rfl, _, SqL.of eF7⟩, _, rfl, pF, _, _, rfl, rfl, eF7, (by rw [List.length_map]; exact small1000 (by omega)), ?_⟩
      refine ⟨_, _, _, _, _, ws ++ [wd1], rfl, (by rw [List.length_append, hl]; rfl), ?_, ?_, ?_, ?_, ?_⟩
      · intro y hy
        rcases List.mem_append.mp hy with h | h
        · exact hw y h
        · rw [List.mem_singleton.mp h]
          exact wl
      · rw [upd_same, List.map_append]
        rfl
      · rw [upd_ne fO]
        exact sm7 _ _ eO6
      · exact ((t6.same sm7).put fT fL).more (by omega)
      · intro b o h m
        rw [upd_ne (ne_of_none h nF0)]
        exact sm7 _ _ (k06 _ _ h m)
  · rintro σ H3 ⟨kk, l, sm, wd, mo, ws, rfl, hl, hw, eF, eO, tp, kp⟩
    refine ⟨_, rfl, q H3 pF ws (by omega) hw eF nF0 (tp.more (by omega)) kp⟩
end
end My

set_option maxRecDepth 100000
set_option maxHeartbeats 4000000
namespace My
open PySem PySem.Spec PyProof.Rows L2
abbrev sSay : Stmt := top 17
theorem scSay : FnScope ["_law_tape_here", "_law_names", "_law_left", "_law_deep", "_law_kind", "_law_word", "_law_first"] ["_law_tape_here", "_law_names", "_law_left", "_law_deep"] (defScope sSay) := ⟨rfl, rfl, rfl, by decide +kernel, rfl, by decide +kernel, by decide +kernel⟩
/-! ### sayings -/
theorem at0 {α : Type} {x : α} {xs : List α} : atI (x :: xs) 0 = some x := atI_nat (j := 0) rfl
theorem at1 {α : Type} {x y : α} {xs : List α} : atI (x :: y :: xs) 1 = some y := atI_nat (j := 1) rfl
def TupK (H H' : Hp) : Prop := ∀ b xs, H b = some (.tup xs) → H' b = some (.tup xs)
theorem TupK.of {H H' : Hp} (s : Same H H') : TupK H H' := fun b xs h => s b _ h
theorem TupK.trans {H H1 H2 : Hp} (a : TupK H H1) (b : TupK H1 H2) : TupK H H2 := fun c xs h => b c xs (a c xs h)
theorem TupK.put {H : Hp} {p : Addr} {xs : List V} {o : HO} (h : H p = some (.lst xs)) : TupK H (upd H p o) := fun b ys e => by
  rw [upd_ne (fun z => by rw [z, h] at e; cases e)]
  exact e
theorem TupK.putD {H : Hp} {p : Addr} {kv : List (Key × V)} {o : HO} (h : H p = some (.dK kv)) : TupK H (upd H p o) := fun b ys e => by
  rw [upd_ne (fun z => by rw [z, h] at e; cases e)]
  exact e
inductive B4 where
  | an | orr | iff | sm
def B4.s : B4 → Str
  | .an => "and"
  | .orr => "or"
  | .iff => "if"
  | .sm => "same"
inductive Sy where
  | yes | no
  | nm (x : Str)
  | nt (a : Sy)
  | bi (k : B4) (a b : Sy)
def Sy.names : Sy → List Str
  | .nm x => [x]
  | .nt a => a.names
  | .bi _ a b => a.names ++ b.names
  | _ => []
def Sy.sz : Sy → Nat
  | .nt a => a.sz + 1
  | .bi _ a b => a.sz + b.sz + 1
  | _ => 1
def Sy.dep : Sy → Nat
  | .nt a => a.dep + 1
  | .bi _ a b => max a.dep b.dep + 1
  | _ => 1
theorem Sy.pos (s : Sy) : 1 ≤ s.sz := by cases s <;> (unfold Sy.sz; omega)
inductive St (H : Hp) : V → Sy → Prop
  | yes {a : Addr} : H a = some (.tup [.str "yes"]) → St H (.ref a) .yes
  | no {a : Addr} : H a = some (.tup [.str "no"]) → St H (.ref a) .no
  | nm {a : Addr} (x : Str) : H a = some (.tup [.str "name", .str x]) → St H (.ref a) (.nm x)
  | nt {a : Addr} {v : V} {s : Sy} : H a = some (.tup [.str "not", v]) → St H v s → St H (.ref a) (.nt s)
  | bi {a : Addr} {v u : V} {s t : Sy} (k : B4) : H a = some (.tup [.str k.s, v, u]) → St H v s → St H u t → St H (.ref a) (.bi k s t)
theorem st_keep {H H' : Hp} (e : TupK H H') {v : V} {s : Sy} (h : St H v s) : St H' v s := by
  induction h with
  | yes h => exact .yes (e _ _ h)
  | no h => exact .no (e _ _ h)
  | nm x h => exact .nm x (e _ _ h)
  | nt h _ ih => exact .nt (e _ _ h) ih
  | bi k h _ _ i1 i2 => exact .bi k (e _ _ h) i1 i2
/-- all but T and F is as it was -/
def Keep2 (T F : Addr) (H H' : Hp) : Prop := ∀ b o, H b = some o → b ≠ T → b ≠ F → H' b = some o
theorem Keep2.of {T F : Addr} {H H' : Hp} (k : Keep T H H') : Keep2 T F H H' := fun b o h n _ => k b o h n
theorem Keep2.same {T F : Addr} {H H' : Hp} (k : Same H H') : Keep2 T F H H' := fun b o h _ _ => k b o h
theorem Keep2.trans {T F : Addr} {H H1 H2 : Hp} (a : Keep2 T F H H1) (b : Keep2 T F H1 H2) : Keep2 T F H H2 := fun c o h n m => b c o (a c o h n m) n m
theorem Keep2.put {T F : Addr} {H : Hp} {o : HO} : Keep2 T F H (upd H F o) := fun b u h _ m => by
  rw [upd_ne m]
  exact h
/-- the tape at T, the list at F -/
structure Two (H : Hp) (T L F : Addr) (B l : Int) : Prop where
  t : Tape H T L B
  f : H F = some (.lst [.int l])
  ne : F ≠ L
theorem Two.nT {H : Hp} {T L F : Addr} {B l : Int} (w : Two H T L F B l) : F ≠ T := fun z => by
  obtain ⟨ns, s, k, a, _⟩ := w.t
  have e := w.f
  rw [z, a.d] at e
  cases e
theorem Two.tup {H H' : Hp} {T L F : Addr} {B l : Int} (w : Two H T L F B l) (k : Keep2 T F H H') : TupK H H' := fun b xs h => by
  refine k b _ h (fun z => ?_) (fun z => ?_)
  · obtain ⟨ns, s, m, a, _⟩ := w.t
    rw [z, a.d] at h
    cases h
  · rw [z, w.f] at h
    cases h
structure Grow (mg : Str → Option Value) (K : PySem.W.Frag) (fD fS : Addr) (dD dS : FuncData) : Prop where
  gD : mg "_law_draw" = some (.ref fD)
  kD : PySem.W.keepIn K (.ref fD) = true
  bD : Binds K dD ["_law_tape_here", "_law_many"] []
  gS : mg "_law_saying" = some (.ref fS)
  kS : PySem.W.keepIn K (.ref fS) = true
  bS : Binds K dS ["_law_tape_here", "_law_names", "_law_left", "_law_deep"] []
  ml : mg "len" = none
  mmin : mg "min" = none
  mint : mg "int" = none
def spSay (n : Nat) : Sp := fun vs H Q _ => ∃ (T L N F : Addr) (ws : List Str) (l B : Int) (k : Nat), vs = [.ref T, .ref N, .ref F, .int (k : Nat)] ∧ k < n ∧ 1 ≤ k ∧ Two H T L F B l ∧ 0 ≤ l ∧ H N = some (.lst (ws.map V.str)) ∧ 0 < ws.length ∧ ws.length ≤ 12 ∧ (∀ z ∈ ws, z.length ≤ 8) ∧
  B + 33 * (1 + l) + 100 ≤ 1000000 ∧
  ∀ (H' : Hp) (a : Addr) (d : Sy) (l' : Int), 0 ≤ l' → l' ≤ l → Two H' T L F (B + 33 * (1 + l - l')) l' → Keep2 T F H H' → St H' (.ref a) d → d.dep ≤ k → (d.sz : Int) + l' ≤ 1 + l → (∀ z ∈ d.names, z ∈ ws) → Q (.ref a) H'
section
variable {P : Program} {w : World} {K : PySem.W.Frag} {mg : Str → Option Value} {base : Heap} {f fD : Addr} {fd dD : FuncData}
theorem ok_say {n : Nat} (F0 : FnP K "_law_saying" sSay f fd) (GD : FnOk P w K mg base CX0 11 fD dD ["_law_tape_here", "_law_many"] (spDraw 11)) (GR : FnOk P w K mg base CX0 (11 + n) f fd ["_law_tape_here", "_law_names", "_law_left", "_law_deep"] (spSay n)) (T0 : Grow mg K fD f dD fd) :
    FnOk P w K mg base CX0 (11 + n + 1) f fd ["_law_tape_here", "_law_names", "_law_left", "_law_deep"] (spSay (n + 1)) := by
  refine F0.ok scSay (fun vs H Q E h => ?_) (fun cdv A outer s H vs Q E hr h => ?_)
  · obtain ⟨T, L, N, F, ws, l, B, k, rfl, _⟩ := h
    rfl
  obtain ⟨T, L, N, F, ws, l, B, k, rfl, hk, hk1, hw, hl0, eN, hn0, hn12, hn8, hB, q⟩ := h
  have hr11 : Room 11 _ := hr.mono (by omega)
  refine ⟨_, PSs.nox (pss_cons (ps_set (i := 4) scSay.nd rfl (Or.inl rfl) (pe_call GD hr11 (by rfl) T0.gD T0.kD T0.bD .nil pass0 (pa_cons (pv 0) (pa_cons pe_int pa_nil))))
 (pss_cons (ps_if (PW.pt (pw_or (pt_cmpR op_lt (pe_ix ix_list (pv 2) pe_int (fun _ _ => rfl)) pe_int (nomark _)) (pw_or (pt_cmpR op_lt (pv 3) pe_int (nomark _)) (pw_or1 (pt_cmpR op_lt (pv 4) pe_int (nomark _))))))
 (pss_one (ps_ret (pe_ix ix_list (pe_lst (pa_cons (pe_tup (pa_cons pe_str pa_nil)) (pa_cons (pe_tup (pa_cons pe_str pa_nil)) (pa_cons (pe_tup (pa_cons pe_str (pa_cons (pe_ix ix_list (pv 1) (pe_call GD hr11 (by rfl) T0.gD T0.kD T0.bD .nil pass0 (pa_cons (pv 0) (pa_cons (pe_callB call_len_seq (by rfl) T0.ml PySem.boot_len (pa_cons (pv 1) pa_nil)) pa_nil))) (fun _ _ => rfl)) pa_nil))) pa_nil)))) (pe_callB (call_min2 rfl) (by rfl) T0.mmin (by decide +kernel) (pa_cons pe_int (pa_cons (pe_call GD hr11 (by rfl) T0.gD T0.kD T0.bD .nil pass0 (pa_cons (pv 0) (pa_cons pe_int pa_nil))) pa_nil))) (fun _ _ => rfl)))) pss_nil)
 (pss_cons (ps_asg (pe_op op_sub (pe_op op_sub (pe_ix ix_list (pv 2) pe_int (fun _ _ => rfl)) pe_int) (pe_callTy call_int1 (by rfl) T0.mint (by decide +kernel) (pa_cons (pe_cmpR op_gt (pv 4) pe_int (nomark _)) pa_nil))) (pg_sub (pv 2) pe_int set_list))
 (pss_cons (ps_if (pt_cmpR op_eq (pv 4) pe_int (nomark _))
 (pss_one (ps_ret (pe_tup (pa_cons pe_str (pa_cons (pe_call GR hr (by rfl) T0.gS T0.kS T0.bS .nil pass0 (pa_cons (pv 0) (pa_cons (pv 1) (pa_cons (pv 2) (pa_cons (pe_op op_sub (pv 3) pe_int) pa_nil))))) pa_nil))))) pss_nil)
 (pss_cons (ps_set (i := 5) scSay.nd rfl (Or.inl rfl) (pe_ix ix_list (pe_lst (pa_cons pe_str (pa_cons pe_str (pa_cons pe_str (pa_cons pe_str (pa_cons pe_str (pa_cons pe_str pa_nil))))))) (pe_op op_sub (pv 4) pe_int) (fun _ _ => rfl)))
 (pss_cons (ps_set (i := 6) scSay.nd rfl (Or.inl rfl) (pe_call GR hr (by rfl) T0.gS T0.kS T0.bS .nil pass0 (pa_cons (pv 0) (pa_cons (pv 1) (pa_cons (pv 2) (pa_cons (pe_op op_sub (pv 3) pe_int) pa_nil))))))
 (pss_one (ps_ret (pe_tup (pa_cons (pv 5) (pa_cons (pv 6) (pa_cons (pe_call GR hr (by rfl) T0.gS T0.kS T0.bS .nil pass0 (pa_cons (pv 0) (pa_cons (pv 1) (pa_cons (pv 2) (pa_cons (pe_op op_sub (pv 3) pe_int) pa_nil))))) pa_nil)))))))))))), ?_⟩
  have nF : F ≠ T := hw.nT
  have nN : N ≠ T := fun z => by
    obtain ⟨ns, s, m, a, _⟩ := hw.t
    rw [z, a.d] at eN
    cases eN
  refine ⟨_, rfl, T, L, 10, B, rfl, by decide, by decide, by omega, hw.t, fun H1 kd k0 k1 t1 kp1 => ?_⟩
  have eN1 := kp1 _ _ eN nN
  have eF1 := kp1 _ _ hw.f nF
  have w1 : Two H1 T L F (B + 11) l := ⟨t1, eF1, hw.ne⟩
  apply cutR
  case k =>
    intro leaf
    refine ⟨_, rfl, F, _, _, _, rfl, rfl, SqL.of eF1, at0, _, _, rfl, rfl, _, rfl, ite2 (fun _ => ?ka) (fun c1 => ⟨_, rfl, _, _, rfl, rfl, _, rfl, ite2 (fun _ => ?kb) (fun c2 => ⟨_, rfl, _, _, rfl, rfl, _, rfl, ite2 (fun _ => ?kc) (fun c3 => ?kd)⟩)⟩)⟩
    case kc => exact leaf
    case ka => exact iteT leaf
    case kb => exact iteT leaf
    case kd =>
      have d1 : ¬ l < 2 := of_decide_eq_false (Bool.eq_false_iff.mpr c1)
      have d2 : ¬ (k : Int) < 2 := of_decide_eq_false (Bool.eq_false_iff.mpr c2)
      have d3 : ¬ kd < 3 := of_decide_eq_false (Bool.eq_false_iff.mpr c3)
      obtain ⟨j, rfl⟩ : ∃ j, k = j + 1 := ⟨k - 1, by omega⟩
      -- left[0] = ..
      refine ⟨_, rfl, F, _, _, _, rfl, rfl, SqL.of eF1, at0, _, _, rfl, rfl, _, rfl, _, _, rfl, rfl, .inr ⟨_, rfl, _, _, rfl, rfl, ?_⟩⟩
      refine ⟨_, rfl, F, _, _, 0, rfl, rfl, eF1, rfl, ?_⟩
      have kp2 : Keep2 T F H (upd H1 F (.lst [.int (l - 1 - (if decide (3 < kd) = true then 1 else 0))])) := (Keep2.of kp1).trans Keep2.put
      have w2 : Two (upd H1 F (.lst [.int (l - 1 - (if decide (3 < kd) = true then 1 else 0))])) T L F (B + 11) (l - 1 - (if decide (3 < kd) = true then 1 else 0)) := ⟨t1.put nF hw.ne, upd_same, hw.ne⟩
      have nFN : N ≠ F := fun z => by
        rw [z, eF1] at eN1
        cases ws with
        | nil => exact absurd hn0 (by decide)
        | cons _ _ => cases eN1
      have eN2 : (upd H1 F (.lst [.int (l - 1 - (if decide (3 < kd) = true then 1 else 0))])) N = some (.lst (ws.map V.str)) := by
        rw [upd_ne nFN]
        exact eN1
      have ejj : ((j + 1 : Nat) : Int) - 1 = (j : Int) := by omega
      have eargs : [V.ref T, V.ref N, V.ref F, V.int (((j + 1 : Nat) : Int) - 1)] = [V.ref T, V.ref N, V.ref F, V.int (j : Int)] := by rw [ejj]
      rw [show ([V.int l].set 0 ((fun i j => V.int (i - j)) (l - 1) (if decide (3 < kd) = true then 1 else 0))) = [V.int (l - 1 - (if decide (3 < kd) = true then 1 else 0))] from rfl]
      by_cases h3 : kd = 3
      · have e3 : (if decide ((3 : Int) < kd) = true then (1 : Int) else 0) = 0 := by rw [if_neg]; rw [decide_eq_true_iff]; omega
        rw [e3] at kp2 w2 eN2
        rw [e3]
        have e4 : l - 1 - 0 = l - 1 := by omega
        rw [e4] at kp2 w2 eN2
        rw [e4]
        generalize upd H1 F (.lst [.int (l - 1)]) = H2 at kp2 w2 eN2 ⊢
        refine ⟨_, rfl, rfl, _, rfl, ?_⟩
        rw [decide_eq_true (by rw [h3])]
        refine iteT ?_
        refine ⟨_, rfl, _, rfl, _, rfl, _, rfl, _, _, rfl, rfl, T, L, N, F, ws, l - 1, B + 11, j, eargs, by omega, by omega, w2, by omega, eN2, hn0, hn12, hn8, by omega, fun H3 a d l' l0 l1 w3 k3 t3 f3 z3 m3 => ?_⟩
        refine ⟨(by show 2 ≤ sizeLine; decide), fun p np => ?_⟩
        have s4 := same_new np (.tup [.str "not", .ref a])
        refine q _ p (.nt d) l' l0 (by omega) ⟨(w3.t.same s4).more (by omega), s4 _ _ w3.f, hw.ne⟩ ((kp2.trans k3).trans (Keep2.same s4)) (.nt upd_same (st_keep (TupK.of s4) t3)) (Nat.succ_le_succ f3) ?_ m3
        show ((d.sz + 1 : Nat) : Int) + l' ≤ 1 + l
        omega
      · have e3 : (if decide ((3 : Int) < kd) = true then (1 : Int) else 0) = 1 := by rw [if_pos]; exact decide_eq_true (by omega)
        rw [e3] at kp2 w2 eN2
        rw [e3]
        have e4 : l - 1 - 1 = l - 2 := by omega
        rw [e4] at kp2 w2 eN2
        rw [e4]
        generalize upd H1 F (.lst [.int (l - 2)]) = H2 at kp2 w2 eN2 ⊢
        refine ⟨_, rfl, rfl, _, rfl, ?_⟩
        rw [decide_eq_false (fun z => h3 (V.int.inj z))]
        refine iteF ?_
        -- word
        refine ⟨(by show 6 ≤ sizeLine; decide), fun pw nw => ?_⟩
        have s3 := same_new nw (.lst [.str "and", .str "or", .str "if", .str "same", .str "and", .str "or"])
        have ew : (upd H2 pw (.lst [.str "and", .str "or", .str "if", .str "same", .str "and", .str "or"])) pw = some (.lst [.str "and", .str "or", .str "if", .str "same", .str "and", .str "or"]) := upd_same
        have hwd : ∃ x : B4, atI ([.str "and", .str "or", .str "if", .str "same", .str "and", .str "or"] : List V) (kd - 4) = some (.str x.s) := by
          have c6 : kd - 4 = 0 ∨ kd - 4 = 1 ∨ kd - 4 = 2 ∨ kd - 4 = 3 ∨ kd - 4 = 4 ∨ kd - 4 = 5 := by omega
          rcases c6 with h | h | h | h | h | h <;> rw [h]
          · exact ⟨.an, rfl⟩
          · exact ⟨.orr, rfl⟩
          · exact ⟨.iff, rfl⟩
          · exact ⟨.sm, rfl⟩
          · exact ⟨.an, rfl⟩
          · exact ⟨.orr, rfl⟩
        obtain ⟨x, hx⟩ := hwd
        have w3 : Two (upd H2 pw (.lst [.str "and", .str "or", .str "if", .str "same", .str "and", .str "or"])) T L F (B + 11) (l - 2) := ⟨w2.t.same s3, s3 _ _ w2.f, hw.ne⟩
        have kp3 := kp2.trans (Keep2.same (T := T) (F := F) s3)
        have eN3 := s3 _ _ eN2
        generalize upd H2 pw (.lst [.str "and", .str "or", .str "if", .str "same", .str "and", .str "or"]) = H3 at ew w3 kp3 eN3 ⊢
        refine ⟨_, rfl, _, _, rfl, rfl, pw, _, _, _, rfl, rfl, SqL.of ew, hx, ?_⟩
        -- the first
        refine ⟨_, rfl, _, rfl, _, rfl, _, rfl, _, _, rfl, rfl, T, L, N, F, ws, l - 2, B + 11, j, eargs, by omega, by omega, w3, by omega, eN3, hn0, hn12, hn8, by omega, fun H4 a d l' l0 l1 w4 k4 t4 f4 z4 m4 => ?_⟩
        have eN4 := k4 _ _ eN3 nN nFN
        -- the second
        refine ⟨_, rfl, _, rfl, _, rfl, _, rfl, _, rfl, _, rfl, _, _, rfl, rfl, T, L, N, F, ws, l', B + 11 + 33 * (1 + (l - 2) - l'), j, eargs, by omega, by omega, w4, by omega, eN4, hn0, hn12, hn8, by omega, fun H5 a' d' l2 l20 l21 w5 k5 t5 f5 z5 m5 => ?_⟩
        refine ⟨(by show 3 ≤ sizeLine; decide), fun p np => ?_⟩
        have s6 := same_new np (.tup [.str x.s, .ref a, .ref a'])
        refine q _ p (.bi x d d') l2 l20 (by omega) ⟨(w5.t.same s6).more (by omega), s6 _ _ w5.f, hw.ne⟩ (((kp3.trans k4).trans k5).trans (Keep2.same s6))
          (.bi x upd_same (st_keep ((w4.tup k5).trans (TupK.of s6)) t4) (st_keep (TupK.of s6) t5)) (Nat.succ_le_succ (Nat.max_le.mpr ⟨f4, f5⟩)) ?_ (fun z hz => ?_)
        · show ((d.sz + d'.sz + 1 : Nat) : Int) + l2 ≤ 1 + l
          omega
        · rcases List.mem_append.mp hz with h | h
          · exact m4 z h
          · exact m5 z h
  -- a leaf
  refine ⟨(by show 1 ≤ sizeLine; decide), fun a1 n1 => ⟨(by show 1 ≤ sizeLine; decide), fun a2 n2 => ?_⟩⟩
  have s2 := same_new n1 (.tup [.str "yes"])
  have s3 := same_new n2 (.tup [.str "no"])
  have g1 := s3 _ _ (upd_same : (upd H1 a1 (.tup [.str "yes"])) a1 = some (.tup [.str "yes"]))
  have g2 : (upd (upd H1 a1 (.tup [.str "yes"])) a2 (.tup [.str "no"])) a2 = some (.tup [.str "no"]) := upd_same
  have s23 := s2.trans s3
  generalize (upd (upd H1 a1 (.tup [.str "yes"])) a2 (.tup [.str "no"])) = H3 at s23 g1 g2 ⊢
  have eN3 := s23 _ _ eN1
  have hlw : (((ws.map V.str).length : Nat) : Int) = (ws.length : Int) := by rw [List.length_map]
  refine ⟨_, rfl, _, rfl, _, rfl, N, _, rfl, .inl (SqL.of eN3), T, L, _, B + 11, rfl, by rw [hlw]; omega, Nat.lt_of_le_of_lt (show _ ≤ 12 by rw [hlw]; omega) (by decide), by omega, t1.same s23, fun H4 r r0 r1 t4 k4 => ?_⟩
  have eN4 := k4 _ _ eN3 nN
  obtain ⟨v, hv1, hv2⟩ := at_in (xs := ws.map V.str) r0 r1
  obtain ⟨z, hz, rfl⟩ := List.mem_map.mp hv1
  have g14 := k4 _ _ g1 (fun e => by rw [e] at g1; obtain ⟨ns, s, m, a, _⟩ := t1.same s23; rw [a.d] at g1; cases g1)
  have g24 := k4 _ _ g2 (fun e => by rw [e] at g2; obtain ⟨ns, s, m, a, _⟩ := t1.same s23; rw [a.d] at g2; cases g2)
  refine ⟨N, _, _, _, rfl, rfl, SqL.of eN4, hv2, (by show 2 ≤ sizeLine; decide), fun a3 n3 => ⟨(by show 3 ≤ sizeLine; decide), fun p np => ?_⟩⟩
  have s5 := same_new n3 (.tup [.str "name", .str z])
  have s6 := same_new np (.lst [.ref a1, .ref a2, .ref a3])
  have g36 := s6 _ _ (upd_same : (upd H4 a3 (.tup [.str "name", .str z])) a3 = some (.tup [.str "name", .str z]))
  have g16 := s6 _ _ (s5 _ _ g14)
  have g26 := s6 _ _ (s5 _ _ g24)
  have gp : (upd (upd H4 a3 (.tup [.str "name", .str z])) p (.lst [.ref a1, .ref a2, .ref a3])) p = some (.lst [.ref a1, .ref a2, .ref a3]) := upd_same
  have s56 := s5.trans s6
  generalize (upd (upd H4 a3 (.tup [.str "name", .str z])) p (.lst [.ref a1, .ref a2, .ref a3])) = H5 at s56 g16 g26 g36 gp ⊢
  have t5 := t4.same s56
  refine ⟨_, rfl, T, L, 12, _, rfl, by decide, by decide, by omega, t5, fun H6 r2 r20 r21 t6 k6 => ?_⟩
  have pT : p ≠ T := fun e => by rw [e] at gp; obtain ⟨ns, s, m, a, _⟩ := t5; rw [a.d] at gp; cases gp
  have nT : ∀ {b : Addr} {xs : List V}, H5 b = some (.tup xs) → b ≠ T := fun {b xs} g e => by rw [e] at g; obtain ⟨ns, s, m, a, _⟩ := t5; rw [a.d] at g; cases g
  have pick : ∃ a d, atI ([.ref a1, .ref a2, .ref a3] : List V) (if r2 < 2 then r2 else 2) = some (.ref a) ∧ St H6 (.ref a) d ∧ d.dep ≤ 1 ∧ d.sz = 1 ∧ ∀ y ∈ d.names, y ∈ ws := by
    have c3 : r2 = 0 ∨ r2 = 1 ∨ 2 ≤ r2 := by omega
    rcases c3 with h | h | h
    · subst h
      exact ⟨a1, _, rfl, .yes (k6 _ _ g16 (nT g16)), Nat.le_refl _, rfl, fun y hy => by cases hy⟩
    · subst h
      exact ⟨a2, _, rfl, .no (k6 _ _ g26 (nT g26)), Nat.le_refl _, rfl, fun y hy => by cases hy⟩
    · rw [if_neg (by omega)]
      refine ⟨a3, _, rfl, .nm z (k6 _ _ g36 (nT g36)), Nat.le_refl _, rfl, fun y hy => ?_⟩
      rw [List.mem_singleton.mp hy]
      exact hz
  obtain ⟨a, d, ha, hd, hf, hsz, hnm⟩ := pick
  refine ⟨2, r2, rfl, p, _, _, _, rfl, rfl, SqL.of (k6 _ _ gp pT), ha, ?_⟩
  have kA : Keep T H H6 := (((kp1.trans (Keep.of s23)).trans k4).trans (Keep.of s56)).trans k6
  exact q H6 a d l hl0 (Int.le_refl _) ⟨t6.more (by omega), kA _ _ hw.f nF, hw.ne⟩ (Keep2.of kA) hd (Nat.le_trans hf hk1) (by omega) hnm
theorem no_say : FnOk P w K mg base CX0 11 f fd ["_law_tape_here", "_law_names", "_law_left", "_law_deep"] (spSay 0) := by
  have no : ∀ vs H Q E, ¬ spSay 0 vs H Q E := fun vs H Q E h => by
    obtain ⟨T, L, N, F, ws, l, B, k, _, h1, _⟩ := h
    omega
  exact ⟨fun vs H Q E h => absurd h (no vs H Q E), fun A outer s H args us vs Q E _ _ _ _ h => absurd h (no vs H Q E)⟩
theorem all_say (F0 : FnP K "_law_saying" sSay f fd) (GD : FnOk P w K mg base CX0 11 fD dD ["_law_tape_here", "_law_many"] (spDraw 11)) (T0 : Grow mg K fD f dD fd) :
    ∀ n : Nat, FnOk P w K mg base CX0 (11 + n) f fd ["_law_tape_here", "_law_names", "_law_left", "_law_deep"] (spSay n)
  | 0 => no_say
  | n + 1 => ok_say F0 GD (all_say F0 GD T0 n) T0
end
end My

set_option maxRecDepth 100000
set_option maxHeartbeats 4000000
namespace My
open PySem PySem.Spec PyProof.Rows L2
abbrev sParts : Stmt := top 5
abbrev sNames : Stmt := top 6
theorem scParts : FnScope ["saying"] ["saying"] (defScope sParts) := ⟨rfl, rfl, rfl, by decide +kernel, rfl, by decide +kernel, by decide +kernel⟩
theorem scNames : FnScope ["saying", "found", "waiting", "part"] ["saying"] (defScope sNames) := ⟨rfl, rfl, rfl, by decide +kernel, rfl, by decide +kernel, by decide +kernel⟩
/-! ### sorted lists of texts are alike where their members are -/
theorem rising_pw : ∀ (x : Str) (l : List Str), risingS x l = true → (x :: l).Pairwise (fun a b => a.cps.toList ≤ b.cps.toList)
  | x, [], _ => List.pairwise_singleton _ _
  | x, y :: r, h => by
    have h2 : (!ltCps y.cps.toList x.cps.toList && risingS y r) = true := h
    rw [Bool.and_eq_true] at h2
    have i := rising_pw y r h2.2
    have xy : x.cps.toList ≤ y.cps.toList := by
      have e := h2.1
      rw [ltCps_eq] at e
      have e2 : ¬ y.cps.toList < x.cps.toList := by simpa using e
      exact e2
    refine List.pairwise_cons.mpr ⟨fun z hz => ?_, i⟩
    rcases List.mem_cons.mp hz with rfl | hz
    · exact xy
    · exact List.le_trans xy ((List.pairwise_cons.mp i).1 z hz)
theorem sorted_pw {l : List Str} (h : sortedS l = true) : l.Pairwise (fun a b => a.cps.toList ≤ b.cps.toList) := by
  cases l with
  | nil => exact List.Pairwise.nil
  | cons x r => exact rising_pw x r h
theorem str_ext {a b : Str} (h : a.cps.toList = b.cps.toList) : a = b := by
  obtain ⟨x⟩ := a
  obtain ⟨y⟩ := b
  have e : x = y := Array.toList_inj.mp h
  rw [e]
theorem sorted_alike {l m : List Str} (hl : sortedS l = true) (hm : sortedS m = true) (nl : l.Nodup) (nm : m.Nodup) (h : ∀ z, z ∈ l ↔ z ∈ m) : l = m :=
  List.Perm.eq_of_pairwise (fun a b _ _ h1 h2 => str_ext (List.le_antisymm h1 h2)) (sorted_pw hl) (sorted_pw hm) ((List.perm_ext_iff_of_nodup nl nm).mpr h)
/-! ### the names found so far -/
def kT (ks : List Str) : List (Key × V) := ks.map fun k => (Sum.inr k, .bl true)
theorem kT_any (ks : List Str) (k : Str) : ((kT ks).any fun kv => decide (kv.1 = (Sum.inr k : Key))) = decide (k ∈ ks) := by
  induction ks with
  | nil => rfl
  | cons x r ih =>
    have e : kT (x :: r) = ((Sum.inr x : Key), V.bl true) :: kT r := rfl
    rw [e, List.any_cons, ih]
    by_cases h : x = k
    · subst h
      rw [decide_eq_true rfl, Bool.true_or]
      exact (decide_eq_true List.mem_cons_self).symm
    · have h1 : ¬ ((Sum.inr x : Key) = Sum.inr k) := fun z => h (Sum.inr.inj z)
      rw [decide_eq_false h1, Bool.false_or]
      refine decide_eq_decide.mpr ⟨List.mem_cons_of_mem _, fun z => ?_⟩
      rcases List.mem_cons.mp z with z | z
      · exact absurd z.symm h
      · exact z
theorem kT_put (ks : List Str) (k : Str) : putK (kT ks) (Sum.inr k) (.bl true) = kT (if k ∈ ks then ks else ks ++ [k]) := by
  unfold putK
  rw [kT_any]
  by_cases h : k ∈ ks
  · rw [if_pos (decide_eq_true h), if_pos h]
    unfold kT
    rw [List.map_map]
    refine List.map_congr_left fun x _ => ?_
    show (if (Sum.inr x : Key) = Sum.inr k then ((Sum.inr x : Key), V.bl true) else (Sum.inr x, V.bl true)) = (Sum.inr x, V.bl true)
    split <;> rfl
  · rw [if_neg (by rw [decide_eq_false h]; decide), if_neg h]
    unfold kT
    rw [List.map_append]
    rfl
def spParts (K : PySem.W.Frag) : Sp := fun vs H Q _ => ∃ (a : Addr) (x : Str) (xs : List V), vs = [.ref a] ∧ SqT K H a (.str x :: xs) ∧ xs.length ≤ 1000 ∧ ∀ (H' : Hp) (p : Addr), Same H H' → SqT K H' p (if x = "name" then [] else xs) → Q (.ref p) H'
/-- what stands below a saying, its word -/
def Sy.word : Sy → Str
  | .yes => "yes"
  | .no => "no"
  | .nm _ => "name"
  | .nt _ => "not"
  | .bi k _ _ => k.s
def Sy.kids : Sy → List Sy
  | .nt a => [a]
  | .bi _ a b => [a, b]
  | _ => []
theorem B4.nn (k : B4) : k.s ≠ "name" := by cases k <;> decide
theorem st_open {H : Hp} {v : V} {s : Sy} (h : St H v s) : ∃ (a : Addr) (xs : List V), v = .ref a ∧ H a = some (.tup (.str s.word :: xs)) ∧ xs.length ≤ 2 ∧ Paired (St H) (if s.word = "name" then [] else xs) s.kids := by
  cases h with
  | yes h => exact ⟨_, _, rfl, h, by decide, .nil⟩
  | no h => exact ⟨_, _, rfl, h, by decide, .nil⟩
  | nm x h => exact ⟨_, _, rfl, h, by show 1 ≤ 2; decide, .nil⟩
  | nt h i => exact ⟨_, _, rfl, h, by show 1 ≤ 2; decide, .cons i .nil⟩
  | bi k h i j =>
    refine ⟨_, _, rfl, h, by show 2 ≤ 2; decide, ?_⟩
    rw [if_neg (show ¬ (Sy.bi k _ _).word = "name" from B4.nn k)]
    exact .cons i (.cons j .nil)
theorem kids_len (s : Sy) : s.kids.length ≤ 2 := by cases s <;> simp [Sy.kids]
def szs (S : List Sy) : Nat := (S.map Sy.sz).sum
theorem szs_kids (s : Sy) : szs s.kids + 1 = s.sz := by cases s <;> simp [szs, Sy.kids, Sy.sz]
theorem szs_app (S S' : List Sy) : szs (S ++ S') = szs S + szs S' := by unfold szs; rw [List.map_append, List.sum_append]
def nmsAll (S : List Sy) : List Str := S.flatMap Sy.names
theorem nms_kids {s : Sy} (h : s.word ≠ "name") : nmsAll s.kids = s.names := by
  cases s with
  | nm x => exact absurd rfl h
  | yes => rfl
  | no => rfl
  | nt a => simp [nmsAll, Sy.kids, Sy.names]
  | bi k a b => simp [nmsAll, Sy.kids, Sy.names]
theorem paired_last {α β : Type} {F : α → β → Prop} : ∀ {m : List β} {b : β} {l : List α}, Paired F l (m ++ [b]) → ∃ l0 a, l = l0 ++ [a] ∧ Paired F l0 m ∧ F a b
  | [], b, _, h => by
    cases h with
    | cons x r =>
      cases r
      exact ⟨[], _, rfl, .nil, x⟩
  | c :: m, b, _, h => by
    cases h with
    | cons x r =>
      obtain ⟨l0, a, e, p, q⟩ := paired_last r
      exact ⟨_ :: l0, a, by rw [e]; rfl, .cons x p, q⟩
theorem paired_app {α β : Type} {F : α → β → Prop} : ∀ {l : List α} {m : List β} {l2 : List α} {m2 : List β}, Paired F l m → Paired F l2 m2 → Paired F (l ++ l2) (m ++ m2)
  | _, _, _, _, .nil, h => h
  | _, _, _, _, .cons x r, h => .cons x (paired_app r h)
theorem paired_imp {α β : Type} {F G : α → β → Prop} (h : ∀ a b, F a b → G a b) : ∀ {l : List α} {m : List β}, Paired F l m → Paired G l m
  | _, _, .nil => .nil
  | _, _, .cons x r => .cons (h _ _ x) (paired_imp h r)
theorem paired_len {α β : Type} {F : α → β → Prop} : ∀ {l : List α} {m : List β}, Paired F l m → l.length = m.length
  | _, _, .nil => rfl
  | _, _, .cons _ r => congrArg Nat.succ (paired_len r)
theorem sub_len (l m : List Str) : l.Nodup → (∀ z ∈ l, z ∈ m) → l.length ≤ m.length := by
  induction l generalizing m with
  | nil => intro _ _; exact Nat.zero_le _
  | cons x r ih =>
    intro nd hm
    obtain ⟨nx, nr⟩ := List.nodup_cons.mp nd
    have hx := hm x List.mem_cons_self
    have := ih (m.erase x) nr (fun z hz => (List.mem_erase_of_ne (fun e => nx (by rw [← e]; exact hz))).mpr (hm z (List.mem_cons_of_mem _ hz)))
    rw [List.length_erase_of_mem hx] at this
    have pos : 0 < m.length := List.length_pos_of_mem hx
    rw [List.length_cons]
    omega
structure Nm (mg : Str → Option Value) (K : PySem.W.Frag) (fP : Addr) (dP : FuncData) : Prop where
  gP : mg "parts_of" = some (.ref fP)
  kP : PySem.W.keepIn K (.ref fP) = true
  bP : Binds K dP ["saying"] []
  msorted : mg "sorted" = none
def spNames : Sp := fun vs H Q _ => ∃ (v : V) (s : Sy), vs = [v] ∧ St H v s ∧ s.sz < 200 ∧ (∃ A : List Str, A.length < 64 ∧ ∀ z ∈ s.names, z ∈ A) ∧ ∀ (H' : Hp) (p : Addr) (ys : List Str), Same H H' → H p = none → H' p = some (.lst (ys.map V.str)) → sortedS ys = true → ys.Nodup → (∀ z, z ∈ ys ↔ z ∈ s.names) → Q (.ref p) H'
section
variable {P : Program} {w : World} {K : PySem.W.Frag} {mg : Str → Option Value} {base : Heap} {f fP : Addr} {fd dP : FuncData}
theorem ok_parts {k : Nat} (F : FnP K "parts_of" sParts f fd) : FnOk P w K mg base CX0 (k + 1) f fd ["saying"] (spParts K) := by
  refine F.ok scParts (fun vs H Q E h => ?_) (fun cdv A outer s H vs Q E hr h => ?_)
  · obtain ⟨a, x, xs, rfl, _⟩ := h
    rfl
  obtain ⟨a, x, xs, rfl, ha, hl, q⟩ := h
  refine ⟨_, PSs.nox (pss_cons (ps_if (pt_cmpR op_eq (pe_ix ix_tup (pv 0) pe_int (fun _ _ => rfl)) pe_str (nomark _))
 (pss_one (ps_ret (pe_tup pa_nil))) pss_nil)
 (pss_one (ps_ret (pe_slice sl_tupA (pv 0) (po_some pe_int) po_none)))), ?_⟩
  refine ⟨_, rfl, a, _, _, _, rfl, rfl, ha, at0, rfl, _, rfl, ?_⟩
  refine ite2 (fun c => ?_) (fun c => ?_)
  · have ex : x = "name" := V.str.inj (of_decide_eq_true c)
    refine ⟨Nat.zero_le _, fun p np => q _ p (same_new np _) ?_⟩
    rw [if_pos ex]
    exact .inl (.inl upd_same)
  · have ex : ¬ x = "name" := fun z => c (decide_eq_true (by rw [z]))
    refine ⟨_, rfl, 1, rfl, a, _, rfl, ha, fun z => ?_, fun _ p np => q _ p (same_new np _) ?_⟩
    · have z1 := z.1
      rw [show HT.sIx (V.str x :: xs).length 0 (some 1) = min 1 (V.str x :: xs).length from HT.sIx_nat _ _ 1, List.length_cons] at z1
      omega
    · rw [if_neg ex]
      have e : cutV (V.str x :: xs) (some 1) none = xs := by
        unfold cutV
        rw [show HT.sIx (V.str x :: xs).length 0 (some 1) = min 1 (V.str x :: xs).length from HT.sIx_nat _ _ 1, HT.sIx_none, List.length_cons]
        have e1 : min 1 (xs.length + 1) = 1 := by omega
        rw [e1]
        show List.take (xs.length + 1 - 1) xs = xs
        rw [Nat.add_sub_cancel]
        exact List.take_length
      rw [e]
      exact .inl (.inl upd_same)
theorem ok_names (F : FnP K "names_of" sNames f fd) (GP : FnOk P w K mg base CX0 1 fP dP ["saying"] (spParts K)) (T0 : Nm mg K fP dP) : FnOk P w K mg base CX0 2 f fd ["saying"] spNames := by
  refine F.ok scNames (fun vs H Q E h => ?_) (fun cdv A outer s H vs Q E hr1 h => ?_)
  · obtain ⟨v, sy, rfl, _⟩ := h
    rfl
  obtain ⟨v, sy, rfl, hst, hsz, ⟨A0, hA0, hA⟩, q⟩ := h
  have hu := hu_of hr1
  refine ⟨_, PSs.nox (pss_cons (ps_set (i := 1) scNames.nd rfl (Or.inl rfl) pe_dnewK)
 (pss_cons (ps_set (i := 2) scNames.nd rfl (Or.inl rfl) (pe_lst (pa_cons (pv 0) pa_nil)))
 (pss_cons (ps_while PassesOwn.never (pt_truth (pv 2) (by intro _; rfl))
 (pss_cons (ps_set (i := 3) scNames.nd rfl (Or.inl rfl) (pe_bm0 PySem.F.plainAttrs_list PySem.F.slot_list_pop PySem.F.type_list_pop mt_pop (pv 2)))
 (pss_cons (ps_if (pt_cmpR op_eq (pe_ix ix_tup (pv 3) pe_int (fun _ _ => rfl)) pe_str (nomark _))
 (pss_one (ps_dput hu (pv 1) (pe_ix ix_tup (pv 3) pe_int (fun _ _ => rfl)) pe_bl rfl)) pss_nil)
 (pss_one (ps_expr (pe_bm PySem.F.plainAttrs_list PySem.F.slot_list_extend PySem.F.type_list_extend mt_extendT (pv 2) (pa_cons (pe_call GP hr1 (by rfl) T0.gP T0.kP T0.bP .nil pass0 (pa_cons (pv 3) pa_nil)) pa_nil)))))))
 (pss_one (ps_ret (pe_callB (call_sortedD rfl) (by rfl) T0.msorted (by decide +kernel) (pa_cons (pv 1) pa_nil))))))), ?_⟩
  intro d nd
  have sd := same_new nd (.dK [])
  have ed : (upd H d (.dK [])) d = some (.dK (kT [])) := upd_same
  generalize upd H d (.dK []) = H1 at sd ed ⊢
  refine ⟨_, rfl, (by show 1 ≤ sizeLine; decide), fun p np => ?_⟩
  have s2 := same_new np (.lst [v])
  have np0 : H p = none := sd.free np
  have pd : p ≠ d := fun z => by
    rw [z, ed] at np
    cases np
  refine ⟨fun m σ H' => ∃ (S : List Sy) (ws : List V) (ks : List Str) (pt : Option V), m = szs S ∧ σ = [some v, some (.ref d), some (.ref p), pt] ∧ H' p = some (.lst ws) ∧ H' d = some (.dK (kT ks)) ∧ Paired (St H') ws S ∧ Same H H' ∧ ks.Nodup ∧ ks.length + szs S ≤ sy.sz ∧ ∀ z, (z ∈ ks ∨ z ∈ nmsAll S) ↔ z ∈ sy.names,
    ⟨_, [sy], [v], [], none, rfl, rfl, upd_same, s2 _ _ ed, .cons (st_keep (TupK.of (sd.trans s2)) hst) .nil, sd.trans s2, List.nodup_nil, ?_, fun z => ?_⟩, ?_⟩
  · show 0 + (sy.sz + 0) ≤ sy.sz
    omega
  · simp [nmsAll]
  rintro m σ H2 ⟨S, ws, ks, pt, rfl, rfl, eP, eD, hP, sm, nk, hn, hm⟩
  refine ⟨_, rfl, !ws.isEmpty, .inl ⟨ws, SqL.of eP, rfl⟩, ?_⟩
  rcases List.eq_nil_or_concat S with rfl | ⟨S0, s1, rfl⟩
  · cases hP
    refine iteF ?_
    refine ⟨_, rfl, d, kT ks, ks, rfl, .of eD, ?_, ?_, fun ys r pm so nr => ?_⟩
    · unfold kT
      rw [List.map_map]
      rfl
    · have := sub_len _ A0 nk (fun z hz => hA z ((hm z).mp (.inl hz)))
      omega
    · refine q _ r ys (sm.trans (same_new nr _)) (sm.free nr) upd_same so (pm.nodup_iff.mpr nk) (fun z => ?_)
      rw [pm.mem_iff, ← hm z]
      exact ⟨.inl, fun y => y.elim id (fun y => by cases y)⟩
  rw [List.concat_eq_append] at hP hn hm
  obtain ⟨ws0, wv, rfl, hP0, h1⟩ := paired_last hP
  have te : (!(ws0 ++ [wv]).isEmpty) = true := by simp
  rw [te]
  refine iteT ?_
  rw [List.concat_eq_append]
  refine ⟨fun σ' H' => ∃ m', m' < szs (S0 ++ [s1]) ∧ ∃ (S : List Sy) (ws : List V) (ks : List Str) (pt : Option V), m' = szs S ∧ σ' = [some v, some (.ref d), some (.ref p), pt] ∧ H' p = some (.lst ws) ∧ H' d = some (.dK (kT ks)) ∧ Paired (St H') ws S ∧ Same H H' ∧ ks.Nodup ∧ ks.length + szs S ≤ sy.sz ∧ ∀ z, (z ∈ ks ∨ z ∈ nmsAll S) ↔ z ∈ sy.names, fun _ _ z => z, ?_⟩
  have hlast : (ws0 ++ [wv])[(ws0 ++ [wv]).length - 1]? = some wv := by simp
  refine ⟨_, rfl, .inl ⟨rfl, _, SqL.of eP⟩, p, _, _, rfl, rfl, eP, hlast, ?_⟩
  have edl : (ws0 ++ [wv]).dropLast = ws0 := by simp
  rw [edl]
  have k2 : ∀ b o, H2 b = some o → b ≠ p → (upd H2 p (.lst ws0)) b = some o := fun b o h n => by rw [upd_ne n]; exact h
  have sm2 : Same H (upd H2 p (.lst ws0)) := fun b o h => k2 b o (sm _ _ h) (ne_of_none h np0)
  have tk2 : TupK H2 (upd H2 p (.lst ws0)) := TupK.put eP
  have eP2 : (upd H2 p (.lst ws0)) p = some (.lst ws0) := upd_same
  have eD2 := k2 _ _ eD (fun z => pd z.symm)
  have hP2 := paired_imp (fun _ _ h => st_keep tk2 h) hP0
  have h2 := st_keep tk2 h1
  generalize upd H2 p (.lst ws0) = H3 at sm2 tk2 eP2 eD2 hP2 h2 ⊢
  obtain ⟨a, xs, rfl, ea, hx2, hk⟩ := st_open h2
  have ha : SqT K H3 a (.str s1.word :: xs) := .inl (.inl ea)
  have hcnt : szs (S0 ++ [s1]) = szs S0 + s1.sz := by rw [szs_app]; simp [szs]
  have hkid := szs_kids s1
  rw [hcnt] at hn
  have hw64 : ws0.length ≤ 200 := by
    have e1 := paired_len hP2
    have : ∀ S : List Sy, S.length ≤ szs S := fun S => by
      induction S with
      | nil => exact Nat.le_refl _
      | cons x r ih =>
        have := x.pos
        show r.length + 1 ≤ x.sz + szs r
        omega
    have := this S0
    omega
  have hmz : ∀ z, (z ∈ ks ∨ z ∈ nmsAll S0 ∨ z ∈ s1.names) ↔ z ∈ sy.names := fun z => by
    rw [← hm z]
    unfold nmsAll
    rw [List.flatMap_append, List.mem_append]
    simp
  refine ⟨_, rfl, a, _, _, _, rfl, rfl, ha, at0, rfl, _, rfl, ite2 (fun c => ?_) (fun c => ?_)⟩
  · have ew : s1.word = "name" := V.str.inj (of_decide_eq_true c)
    obtain ⟨x, rfl⟩ : ∃ x, s1 = .nm x := by
      cases s1 with
      | nm x => exact ⟨x, rfl⟩
      | yes => exact absurd ew (by decide)
      | no => exact absurd ew (by decide)
      | nt a => exact absurd ew (by show ¬ ("not" : Str) = "name"; decide)
      | bi k a b => exact absurd ew (B4.nn k)
    obtain rfl : xs = [.str x] := by
      cases h2 with
      | nm _ h =>
        rw [ea] at h
        have := Option.some.inj h
        injection this with this
        injection this
    have hdp := DPut.k (k := (Sum.inr x : Key)) (v := .bl true) eD2 (by show (kT ks).length < _; unfold kT; rw [List.length_map]; exact small1000 (by omega))
    rw [kT_put] at hdp
    refine ⟨_, rfl, _, rfl, a, _, _, _, rfl, rfl, ha, at1, d, _, rfl, hdp, ?_⟩
    have eP4 : (upd H3 d (.dK (kT (if x ∈ ks then ks else ks ++ [x])))) p = some (.lst ws0) := by
      rw [upd_ne pd]
      exact eP2
    have eD4 : (upd H3 d (.dK (kT (if x ∈ ks then ks else ks ++ [x])))) d = some (.dK (kT (if x ∈ ks then ks else ks ++ [x]))) := upd_same
    have tk4 : TupK H3 (upd H3 d (.dK (kT (if x ∈ ks then ks else ks ++ [x])))) := TupK.putD eD2
    have sm4 : Same H (upd H3 d (.dK (kT (if x ∈ ks then ks else ks ++ [x])))) := fun b o h => by
      rw [upd_ne (ne_of_none h nd)]
      exact sm2 _ _ h
    have hP4 := paired_imp (fun _ _ h => st_keep tk4 h) hP2
    have ha4 : SqT K (upd H3 d (.dK (kT (if x ∈ ks then ks else ks ++ [x])))) a (.str (Sy.nm x).word :: [.str x]) := .inl (.inl (tk4 _ _ ea))
    have nk4 : (if x ∈ ks then ks else ks ++ [x]).Nodup := by
      split
      · exact nk
      · rename_i h
        exact List.nodup_append.mpr ⟨nk, List.nodup_cons.mpr ⟨by simp, List.nodup_nil⟩, fun a ha b hb => by
          rw [List.mem_singleton.mp hb]
          exact fun e => h (e ▸ ha)⟩
    have ln4 : (if x ∈ ks then ks else ks ++ [x]).length ≤ ks.length + 1 := by
      split
      · omega
      · rw [List.length_append]
        exact Nat.le_refl _
    have hm4 : ∀ z, (z ∈ (if x ∈ ks then ks else ks ++ [x]) ∨ z ∈ nmsAll (S0 ++ (Sy.nm x).kids)) ↔ z ∈ sy.names := fun z => by
      rw [← hmz z]
      have e1 : z ∈ (Sy.nm x).names ↔ z = x := List.mem_singleton
      have e2 : nmsAll (S0 ++ (Sy.nm x).kids) = nmsAll S0 := by show nmsAll (S0 ++ []) = _; rw [List.append_nil]
      rw [e1, e2]
      split
      · rename_i h
        exact ⟨fun y => y.elim .inl fun y => .inr (.inl y), fun y => y.elim .inl fun y => y.elim .inr fun y => .inl (y ▸ h)⟩
      · rw [List.mem_append, List.mem_singleton]
        exact ⟨fun y => y.elim (fun y => y.elim .inl fun y => .inr (.inr y)) fun y => .inr (.inl y), fun y => y.elim (fun y => .inl (.inl y)) fun y => y.elim .inr fun y => .inl (.inr y)⟩
    generalize (if x ∈ ks then ks else ks ++ [x]) = ks4 at eP4 eD4 tk4 sm4 hP4 ha4 nk4 ln4 hm4 ⊢
    generalize upd H3 d (.dK (kT ks4)) = H4 at eP4 eD4 tk4 sm4 hP4 ha4 ⊢
    refine ⟨_, rfl, .inl ⟨rfl, _, SqL.of eP4⟩, ?_⟩
    refine ⟨_, rfl, a, _, [V.str x], rfl, ha4, (by show 1 ≤ 1000; decide), fun H5 pp s5 e5 => ?_⟩
    have eP5 := s5 _ _ eP4
    have kid5 := paired_imp (fun _ _ h => st_keep (tk4.trans (TupK.of s5)) h) hk
    have hP5 := paired_imp (fun _ _ h => st_keep (TupK.of s5) h) hP4
    have lk := paired_len kid5
    have lk2 := kids_len (Sy.nm x)
    generalize (if (Sy.nm x).word = "name" then [] else [V.str x]) = ys at e5 kid5 lk
    refine ⟨p, pp, _, _, rfl, rfl, eP5, e5, small (by omega), ?_⟩
    refine ⟨szs (S0 ++ (Sy.nm x).kids), by rw [szs_app, hcnt]; omega, S0 ++ (Sy.nm x).kids, ws0 ++ ys, ks4, _, rfl, rfl, upd_same, ?_, ?_, ?_, nk4, by rw [szs_app]; omega, hm4⟩
    · rw [upd_ne (fun z => pd z.symm)]
      exact s5 _ _ eD4
    · exact paired_app (paired_imp (fun _ _ h => st_keep (TupK.put eP5) h) hP5) (paired_imp (fun _ _ h => st_keep (TupK.put eP5) h) kid5)
    · intro b o h
      rw [upd_ne (ne_of_none h np0)]
      exact s5 _ _ (sm4 _ _ h)
  · have ew : s1.word ≠ "name" := fun z => c (decide_eq_true (by rw [z]))
    have eP4 := eP2
    have eD4 := eD2
    have tk4 : TupK H3 H3 := fun _ _ h => h
    have sm4 := sm2
    have hP4 := hP2
    have ha4 := ha
    have nk4 := nk
    have hm4 : ∀ z, (z ∈ ks ∨ z ∈ nmsAll (S0 ++ s1.kids)) ↔ z ∈ sy.names := fun z => by
      rw [← hmz z, ← nms_kids ew]
      unfold nmsAll
      rw [List.flatMap_append, List.mem_append]
    have ln4 : ks.length ≤ ks.length + 1 := Nat.le_succ _
    refine ⟨_, rfl, .inl ⟨rfl, _, SqL.of eP4⟩, ?_⟩
    refine ⟨_, rfl, a, _, xs, rfl, ha4, (by omega), fun H5 pp s5 e5 => ?_⟩
    have eP5 := s5 _ _ eP4
    have kid5 := paired_imp (fun _ _ h => st_keep (tk4.trans (TupK.of s5)) h) hk
    have hP5 := paired_imp (fun _ _ h => st_keep (TupK.of s5) h) hP4
    have lk := paired_len kid5
    have lk2 := kids_len s1
    generalize (if (s1).word = "name" then [] else xs) = ys at e5 kid5 lk
    refine ⟨p, pp, _, _, rfl, rfl, eP5, e5, small (by omega), ?_⟩
    refine ⟨szs (S0 ++ s1.kids), by rw [szs_app, hcnt]; omega, S0 ++ s1.kids, ws0 ++ ys, ks, _, rfl, rfl, upd_same, ?_, ?_, ?_, nk4, by rw [szs_app]; omega, hm4⟩
    · rw [upd_ne (fun z => pd z.symm)]
      exact s5 _ _ eD4
    · exact paired_app (paired_imp (fun _ _ h => st_keep (TupK.put eP5) h) hP5) (paired_imp (fun _ _ h => st_keep (TupK.put eP5) h) kid5)
    · intro b o h
      rw [upd_ne (ne_of_none h np0)]
      exact s5 _ _ (sm4 _ _ h)
end
end My

set_option maxRecDepth 100000
set_option maxHeartbeats 4000000
namespace My
open PySem PySem.Spec PyProof.Rows L2
abbrev sRefuse : Stmt := top 3
theorem scRefuse : FnScope ["names", "known", "name"] ["names", "known"] (defScope sRefuse) := ⟨rfl, rfl, rfl, by decide +kernel, rfl, by decide +kernel, by decide +kernel⟩
/-- the class NoName at C -/
structure Lack (mg : Str → Option Value) (K : PySem.W.Frag) (C fI : Addr) (bmB : List Value) (newId : String) : Prop where
  err : XE.Err K C fI .name bmB newId
  tyC : PySem.W.typeIn K (.ref C) = some (.type "type")
  gC : mg "NoName" = some (.ref C)
/-- the first name that a list lacks -/
def lackL (ks ys : List Str) : Option Str := ys.find? fun z => !decide (z ∈ ks)
def spRefuse (K : PySem.W.Frag) (C : Addr) : Sp := fun vs H Q E => ∃ (n r : Addr) (ys ks : List Str), vs = [.ref n, .ref r] ∧ SqL K H n (ys.map V.str) ∧ SqL K H r (ks.map V.str) ∧
  (lackL ks ys = none → ∀ H', Same H H' → Q .non H') ∧ (∀ z, lackL ks ys = some z → ∀ d H', Same H H' → H d = none → H' d = some (exd d [("name", .str z)]) → E (.ref C) (some d) H')
theorem lack_take {ks ys : List Str} {i : Nat} {z : Str} (h : ys[i]? = some z) (b : lackL ks (ys.take i) = none) : lackL ks (ys.take (i + 1)) = if (!decide (z ∈ ks)) = true then some z else none := by
  unfold lackL at b ⊢
  rw [List.take_add_one, h, List.find?_append, b]
  show (none : Option Str).or ([z].find? _) = _
  rw [List.find?_singleton]
  rfl
theorem lack_more {ks ys : List Str} {i : Nat} {z : Str} (h : lackL ks (ys.take i) = some z) : lackL ks ys = some z := by
  unfold lackL at h ⊢
  rw [← List.take_append_drop i ys, List.find?_append, h]
  rfl
section
variable {P : Program} {w : World} {K : PySem.W.Frag} {mg : Str → Option Value} {base : Heap} {f C fI : Addr} {fd : FuncData} {bmB : List Value} {newId : String}
theorem ok_refuse (F : FnP K "refuse_lacking" sRefuse f fd) (T0 : Lack mg K C fI bmB newId) : FnOk P w K mg base (L2.CX P w) 2 f fd ["names", "known"] (spRefuse K C) := by
  refine F.ok scRefuse (fun vs H Q E h => ?_) (fun cdv A outer s H vs Q E hr h => ?_)
  · obtain ⟨n, r, ys, ks, rfl, _⟩ := h
    rfl
  obtain ⟨n, r, ys, ks, rfl, hn, hr1, q, qe⟩ := h
  have hu := hu_of hr
  refine ⟨_, (pss_one (ps_for (passes_of rfl) rfl (pi_list (pv 0)) (pg_name (i := 2) scRefuse.nd rfl (Or.inl rfl))
 (pss_one (ps_if (pt_cmpR op_notIn_seq (pv 2) (pv 1) rfl)
 (pss_one (ps_raise rfl (takes_of rfl rfl rfl rfl) (pmk_err T0.err T0.tyC hr (T0.gC) (pa_cons (pv 2) pa_nil)))) pss_nil)))), ?_⟩
  refine ⟨_, rfl, n, rfl, ⟨_, hn⟩, for_it (walk_list (K := K) (a := n) (xs := ys.map V.str)) (fun i σ H' => ∃ kk : Option V, σ = [some (.ref n), some (.ref r), kk] ∧ H' = H ∧ lackL ks (ys.take i) = none) ?_ ?_ ?_ ?_⟩
  · exact ⟨_, rfl, rfl, rfl⟩
  · rintro i σ H' _ ⟨_, _, rfl, _⟩
    exact hn
  · rintro i x σ Hx H1 hi ⟨kk, rfl, rfl, hl⟩ ⟨rfl, hx⟩
    obtain ⟨z, hz, rfl⟩ : ∃ z, ys[i]? = some z ∧ x = V.str z := by
      rw [List.getElem?_map] at hx
      cases e : ys[i]? with
      | none =>
        rw [e] at hx
        cases hx
      | some z =>
        rw [e] at hx
        exact ⟨z, rfl, (Option.some.inj hx).symm⟩
    have e := lack_take (ks := ks) hz hl
    refine ⟨_, rfl, _, rfl, r, _, rfl, .inl hr1, rfl, flat_strs ks, _, rfl, ?_⟩
    rw [inV_strs]
    cases ev : decide (z ∈ ks) with
    | true =>
      refine iteF ?_
      rw [ev] at e
      exact ⟨_, rfl, rfl, e⟩
    | false =>
      refine iteT ?_
      rw [ev] at e
      exact ⟨_, rfl, _, rfl, fun d hd => qe z (lack_more e) d _ (same_new hd _) hd upd_same⟩
  · rintro σ H' ⟨kk, rfl, rfl, hl⟩
    rw [List.length_map, List.take_length] at hl
    exact q hl H' (Same.refl _)
end
end My

set_option maxRecDepth 100000
set_option maxHeartbeats 4000000
namespace My
open PySem PySem.Spec PyProof.Rows L2
abbrev sValue : Stmt := top 7
abbrev sVParts : Stmt := top 8
theorem scValue : FnScope ["saying", "values", "full", "part"] ["saying", "values", "full"] (defScope sValue) := ⟨rfl, rfl, rfl, by decide +kernel, rfl, by decide +kernel, by decide +kernel⟩
theorem scVParts : FnScope ["kind", "parts", "full"] ["kind", "parts", "full"] (defScope sVParts) := ⟨rfl, rfl, rfl, by decide +kernel, rfl, by decide +kernel, by decide +kernel⟩
/-- the rows in which a saying holds, as bits, of those of each name and of all -/
def Sy.bits (full : Int) (vs : Str → Int) : Sy → Int
  | .yes => full
  | .no => 0
  | .nm x => vs x
  | .nt a => Builtin.bitXor full (a.bits full vs)
  | .bi .an a b => Builtin.bitAnd (a.bits full vs) (b.bits full vs)
  | .bi .orr a b => Builtin.bitOr (a.bits full vs) (b.bits full vs)
  | .bi .iff a b => Builtin.bitOr (Builtin.bitXor full (a.bits full vs)) (b.bits full vs)
  | .bi .sm a b => Builtin.bitXor (Builtin.bitXor full (a.bits full vs)) (b.bits full vs)
structure Vl (mg : Str → Option Value) (K : PySem.W.Frag) (fP fV fW : Addr) (dP dV dW : FuncData) : Prop where
  gP : mg "parts_of" = some (.ref fP)
  kP : PySem.W.keepIn K (.ref fP) = true
  bP : Binds K dP ["saying"] []
  gV : mg "value_of" = some (.ref fV)
  kV : PySem.W.keepIn K (.ref fV) = true
  bV : Binds K dV ["saying", "values", "full"] []
  gW : mg "value_of_parts" = some (.ref fW)
  kW : PySem.W.keepIn K (.ref fW) = true
  bW : Binds K dW ["kind", "parts", "full"] []
def spVParts : Sp := fun vs H Q _ => ∃ (D : Addr) (s : Sy) (full : Int) (rows : Str → Int), vs = [.str s.word, .ref D, .int full] ∧ s.word ≠ "name" ∧ H D = some (.lst (s.kids.map fun c => .int (c.bits full rows))) ∧ Q (.int (s.bits full rows)) H
def spValue (n : Nat) : Sp := fun vs H Q _ => ∃ (v : V) (d : Addr) (s : Sy) (kvs : List (Key × V)) (full : Int) (rows : Str → Int), vs = [v, .ref d, .int full] ∧ St H v s ∧ s.dep ≤ n ∧ H d = some (.dK kvs) ∧ (∀ z ∈ s.names, valV kvs (Sum.inr z : Key) = some (.int (rows z))) ∧
  ∀ H', Same H H' → Q (.int (s.bits full rows)) H'
theorem kid_dep {s c : Sy} (h : c ∈ s.kids) : c.dep + 1 ≤ s.dep := by
  cases s with
  | nt a =>
    rw [List.mem_singleton.mp h]
    exact Nat.le_refl _
  | bi k a b =>
    show c.dep + 1 ≤ max a.dep b.dep + 1
    rcases List.mem_cons.mp h with rfl | h
    · omega
    · rw [List.mem_singleton.mp h]
      omega
  | _ => cases h
theorem kid_names {s c : Sy} (h : c ∈ s.kids) : ∀ z ∈ c.names, z ∈ s.names := fun z hz => by
  cases s with
  | nt a =>
    rw [List.mem_singleton.mp h] at hz
    exact hz
  | bi k a b =>
    rcases List.mem_cons.mp h with rfl | h
    · exact List.mem_append_left _ hz
    · rw [List.mem_singleton.mp h] at hz
      exact List.mem_append_right _ hz
  | _ => cases h
theorem ifT {c : Bool} {p q : Prop} (h : c = true) (x : p) : if c = true then p else q := by rw [if_pos h]; exact x
theorem ifF {c : Bool} {p q : Prop} (h : c = false) (x : q) : if c = true then p else q := by rw [if_neg (by rw [h]; decide)]; exact x
section
variable {P : Program} {w : World} {K : PySem.W.Frag} {mg : Str → Option Value} {base : Heap} {f fP fW : Addr} {fd dP dW : FuncData}
theorem ok_vparts {k : Nat} (F : FnP K "value_of_parts" sVParts f fd) : FnOk P w K mg base CX0 (k + 1) f fd ["kind", "parts", "full"] spVParts := by
  refine F.ok scVParts (fun vs H Q E h => ?_) (fun cdv A outer s H vs Q E hr h => ?_)
  · obtain ⟨D, sy, full, rows, rfl, _⟩ := h
    rfl
  obtain ⟨D, sy, full, rows, rfl, nn, eD, q⟩ := h
  refine ⟨_, PSs.nox (pss_cons (ps_if (pt_cmpR op_eq (pv 0) pe_str (nomark _))
 (pss_one (ps_ret (pv 2))) pss_nil)
 (pss_cons (ps_if (pt_cmpR op_eq (pv 0) pe_str (nomark _))
 (pss_one (ps_ret pe_int)) pss_nil)
 (pss_cons (ps_if (pt_cmpR op_eq (pv 0) pe_str (nomark _))
 (pss_one (ps_ret (pe_op op_xor (pv 2) (pe_ix ix_list (pv 1) pe_int (fun _ _ => rfl))))) pss_nil)
 (pss_cons (ps_if (pt_cmpR op_eq (pv 0) pe_str (nomark _))
 (pss_one (ps_ret (pe_op op_and (pe_ix ix_list (pv 1) pe_int (fun _ _ => rfl)) (pe_ix ix_list (pv 1) pe_int (fun _ _ => rfl))))) pss_nil)
 (pss_cons (ps_if (pt_cmpR op_eq (pv 0) pe_str (nomark _))
 (pss_one (ps_ret (pe_op op_or (pe_ix ix_list (pv 1) pe_int (fun _ _ => rfl)) (pe_ix ix_list (pv 1) pe_int (fun _ _ => rfl))))) pss_nil)
 (pss_cons (ps_if (pt_cmpR op_eq (pv 0) pe_str (nomark _))
 (pss_one (ps_ret (pe_op op_or (pe_op op_xor (pv 2) (pe_ix ix_list (pv 1) pe_int (fun _ _ => rfl))) (pe_ix ix_list (pv 1) pe_int (fun _ _ => rfl))))) pss_nil)
 (pss_one (ps_ret (pe_op op_xor (pe_op op_xor (pv 2) (pe_ix ix_list (pv 1) pe_int (fun _ _ => rfl))) (pe_ix ix_list (pv 1) pe_int (fun _ _ => rfl))))))))))), ?_⟩
  cases sy with
  | nm x => exact absurd rfl nn
  | yes => exact ⟨_, rfl, rfl, _, rfl, ifT (by decide) ⟨_, rfl, q⟩⟩
  | no =>
    refine ⟨_, rfl, rfl, _, rfl, ifF (by decide) ?_⟩
    exact ⟨_, rfl, rfl, _, rfl, ifT (by decide) q⟩
  | nt b =>
    have eD' : H D = some (.lst [.int (b.bits full rows)]) := eD
    refine ⟨_, rfl, rfl, _, rfl, ifF rfl ?_⟩
    refine ⟨_, rfl, rfl, _, rfl, ifF rfl ?_⟩
    refine ⟨_, rfl, rfl, _, rfl, ifT rfl ?_⟩
    exact ⟨_, rfl, _, rfl, D, _, _, _, rfl, rfl, SqL.of eD', at0, _, _, rfl, rfl, q⟩
  | bi k b c =>
    have eD' : H D = some (.lst [.int (b.bits full rows), .int (c.bits full rows)]) := eD
    cases k with
    | an =>
      refine ⟨_, rfl, rfl, _, rfl, ifF rfl ?_⟩
      refine ⟨_, rfl, rfl, _, rfl, ifF rfl ?_⟩
      refine ⟨_, rfl, rfl, _, rfl, ifF rfl ?_⟩
      refine ⟨_, rfl, rfl, _, rfl, ifT rfl ?_⟩
      exact ⟨_, rfl, D, _, _, _, rfl, rfl, SqL.of eD', at0, _, rfl, D, _, _, _, rfl, rfl, SqL.of eD', at1, _, _, rfl, rfl, q⟩
    | orr =>
      refine ⟨_, rfl, rfl, _, rfl, ifF rfl ?_⟩
      refine ⟨_, rfl, rfl, _, rfl, ifF rfl ?_⟩
      refine ⟨_, rfl, rfl, _, rfl, ifF rfl ?_⟩
      refine ⟨_, rfl, rfl, _, rfl, ifF rfl ?_⟩
      refine ⟨_, rfl, rfl, _, rfl, ifT rfl ?_⟩
      exact ⟨_, rfl, D, _, _, _, rfl, rfl, SqL.of eD', at0, _, rfl, D, _, _, _, rfl, rfl, SqL.of eD', at1, _, _, rfl, rfl, q⟩
    | iff =>
      refine ⟨_, rfl, rfl, _, rfl, ifF rfl ?_⟩
      refine ⟨_, rfl, rfl, _, rfl, ifF rfl ?_⟩
      refine ⟨_, rfl, rfl, _, rfl, ifF rfl ?_⟩
      refine ⟨_, rfl, rfl, _, rfl, ifF rfl ?_⟩
      refine ⟨_, rfl, rfl, _, rfl, ifF rfl ?_⟩
      refine ⟨_, rfl, rfl, _, rfl, ifT rfl ?_⟩
      exact ⟨_, rfl, _, rfl, D, _, _, _, rfl, rfl, SqL.of eD', at0, _, _, rfl, rfl, _, rfl, D, _, _, _, rfl, rfl, SqL.of eD', at1, _, _, rfl, rfl, q⟩
    | sm =>
      refine ⟨_, rfl, rfl, _, rfl, ifF rfl ?_⟩
      refine ⟨_, rfl, rfl, _, rfl, ifF rfl ?_⟩
      refine ⟨_, rfl, rfl, _, rfl, ifF rfl ?_⟩
      refine ⟨_, rfl, rfl, _, rfl, ifF rfl ?_⟩
      refine ⟨_, rfl, rfl, _, rfl, ifF rfl ?_⟩
      refine ⟨_, rfl, rfl, _, rfl, ifF rfl ?_⟩
      exact ⟨_, rfl, _, rfl, D, _, _, _, rfl, rfl, SqL.of eD', at0, _, _, rfl, rfl, _, rfl, D, _, _, _, rfl, rfl, SqL.of eD', at1, _, _, rfl, rfl, q⟩
theorem ok_value {n : Nat} (F : FnP K "value_of" sValue f fd) (GP : FnOk P w K mg base CX0 1 fP dP ["saying"] (spParts K)) (GW : FnOk P w K mg base CX0 1 fW dW ["kind", "parts", "full"] spVParts) (GR : FnOk P w K mg base CX0 (1 + n) f fd ["saying", "values", "full"] (spValue n)) (T0 : Vl mg K fP f fW dP fd dW) :
    FnOk P w K mg base CX0 (1 + n + 1) f fd ["saying", "values", "full"] (spValue (n + 1)) := by
  refine F.ok scValue (fun vs H Q E h => ?_) (fun cdv A outer s H vs Q E hr h => ?_)
  · obtain ⟨v, d, sy, kvs, full, rows, rfl, _⟩ := h
    rfl
  obtain ⟨v, d, sy, kvs, full, rows, rfl, hst, hdep, hd, hrow, q⟩ := h
  have hu := hu_of hr
  have hr1 : Room 1 _ := hr.mono (by omega)
  refine ⟨_, PSs.nox (pss_cons (ps_if (pt_cmpR op_eq (pe_ix ix_tup (pv 0) pe_int (fun _ _ => rfl)) pe_str (nomark _))
 (pss_one (ps_ret (pe_dget hu (pv 1) (pe_ix ix_tup (pv 0) pe_int (fun _ _ => rfl)) (fun _ _ => rfl)))) pss_nil)
 (pss_one (ps_ret (pe_call GW hr1 (by rfl) T0.gW T0.kW T0.bW .nil pass0 (pa_cons (pe_ix ix_tup (pv 0) pe_int (fun _ _ => rfl)) (pa_cons (pe_lc (own := [("part", 3)]) (g := gName 3) (tt := tYes) (by rfl) scValue.nd (pi_tup (pe_call GP hr1 (by rfl) T0.gP T0.kP T0.bP .nil pass0 (pa_cons (pv 0) pa_nil))) (blkOk_by (own := [("part", 3)]) (N := ["saying", "values", "full", "part"]) (sc := defScope sValue) (by decide +kernel)) (fun _ _ _ _ _ => pg_name (i := 3) scValue.nd rfl (Or.inl rfl)) (fun _ _ _ _ _ => pts_nil) (fun _ _ _ _ _ => (pe_call GR hr (by rfl) T0.gV T0.kV T0.bV .nil pass0 (pa_cons (pv 3) (pa_cons (pv 1) (pa_cons (pv 2) pa_nil)))))) (pa_cons (pv 2) pa_nil))))))), ?_⟩
  obtain ⟨a, xs, rfl, ea, hx2, hk⟩ := st_open hst
  have ha : SqT K H a (.str sy.word :: xs) := .inl (.inl ea)
  refine ⟨_, rfl, a, _, _, _, rfl, rfl, ha, at0, ?_⟩
  refine ⟨rfl, _, rfl, ite2 (fun cw => ?_) (fun cw => ?_)⟩
  · have ew : sy.word = "name" := V.str.inj (of_decide_eq_true cw)
    obtain ⟨x, rfl⟩ : ∃ x, sy = .nm x := by
      cases sy with
      | nm x => exact ⟨x, rfl⟩
      | yes => exact absurd ew (by decide)
      | no => exact absurd ew (by decide)
      | nt a => exact absurd ew (by show ¬ ("not" : Str) = "name"; decide)
      | bi k a b => exact absurd ew (B4.nn k)
    obtain rfl : xs = [.str x] := by
      cases hst with
      | nm _ h =>
        rw [ea] at h
        have := Option.some.inj h
        injection this with this
        injection this
    have hg := DGet.k (k := (Sum.inr x : Key)) hd
    rw [hrow x (List.mem_singleton_self x)] at hg
    refine ⟨_, rfl, _, rfl, a, _, _, _, rfl, rfl, ha, at1, d, _, rfl, hg, ?_⟩
    exact q H (Same.refl _)
  · have ew : sy.word ≠ "name" := fun z => cw (decide_eq_true (by rw [z]))
    refine ⟨_, rfl, a, _, _, _, rfl, rfl, ha, at0, ?_⟩
    refine ⟨_, rfl, a, _, xs, rfl, ha, by omega, fun H1 pp s1 e1 => ?_⟩
    have hk1 := paired_imp (fun _ _ h => st_keep (TupK.of s1) h) hk
    rw [if_neg ew] at e1 hk1
    have hlk := paired_len hk1
    refine ⟨pp, rfl, ⟨_, e1⟩, fun D nD => lc_tup (K := K) (a := pp) (xs := xs) (fun i H' => H' D = some (.lst ((sy.kids.take i).map fun c => .int (c.bits full rows))) ∧ Same H1 H') ?_ ?_ ?_ ?_⟩
    · exact ⟨upd_same, same_new nD _⟩
    · rintro i H' _ ⟨_, s2⟩
      rcases e1 with (h | ⟨o, h⟩) | h
      · exact .inl (.inl (s2 _ _ h))
      · exact .inl (.inr ⟨o, s2 _ _ h⟩)
      · exact .inr h
    · rintro i y H2 hi ⟨eD, s2⟩
      obtain ⟨cs, hcs, hst1⟩ : ∃ cs, sy.kids[i]? = some cs ∧ St H1 y cs := by
        have : ∀ {l : List V} {m : List Sy}, Paired (St H1) l m → ∀ {j : Nat} {y : V}, l[j]? = some y → ∃ c, m[j]? = some c ∧ St H1 y c := by
          intro l m h
          induction h with
          | nil => intro j y e; simp at e
          | cons x r ih =>
            intro j y e
            cases j with
            | zero => exact ⟨_, rfl, by cases Option.some.inj e; exact x⟩
            | succ j => exact ih e
        exact this hk1 hi
      have hmem := List.mem_of_getElem? hcs
      refine ⟨rfl, ?_⟩
      refine ⟨_, rfl, _, rfl, _, rfl, y, d, cs, kvs, full, rows, rfl, st_keep (TupK.of s2) hst1, by have := kid_dep hmem; omega, s2 _ _ (s1 _ _ hd), fun z hz => hrow z (kid_names hmem z hz), fun H3 s3 => ?_⟩
      refine ⟨_, s3 _ _ eD, ?_, ?_, ?_⟩
      · rw [List.length_map, List.length_take]
        exact small1000 (by have := kids_len sy; omega)
      · rw [upd_same, List.take_add_one, hcs, List.map_append]
        rfl
      · intro b o h
        rw [upd_ne (ne_of_none h nD)]
        exact s3 _ _ (s2 _ _ h)
    · rintro H2 ⟨eD, s2⟩
      rw [hlk, List.take_length] at eD
      refine ⟨_, rfl, D, sy, full, rows, rfl, ew, eD, ?_⟩
      exact q H2 (s1.trans s2)
theorem no_value : FnOk P w K mg base CX0 (1 + 0) f fd ["saying", "values", "full"] (spValue 0) := by
  have no : ∀ vs H Q E, ¬ spValue 0 vs H Q E := fun vs H Q E h => by
    obtain ⟨v, d, sy, kvs, full, rows, _, _, h1, _⟩ := h
    cases sy <;> (unfold Sy.dep at h1; omega)
  exact ⟨fun vs H Q E h => absurd h (no vs H Q E), fun A outer s H args us vs Q E _ _ _ _ h => absurd h (no vs H Q E)⟩
theorem all_value (F : FnP K "value_of" sValue f fd) (GP : FnOk P w K mg base CX0 1 fP dP ["saying"] (spParts K)) (GW : FnOk P w K mg base CX0 1 fW dW ["kind", "parts", "full"] spVParts) (T0 : Vl mg K fP f fW dP fd dW) : ∀ n : Nat, FnOk P w K mg base CX0 (1 + n) f fd ["saying", "values", "full"] (spValue n)
  | 0 => no_value
  | n + 1 => ok_value F GP GW (all_value F GP GW T0 n) T0
end
end My

set_option maxRecDepth 100000
set_option maxHeartbeats 4000000
namespace My
open PySem PySem.Spec PyProof.Rows L2
abbrev sCol : Stmt := top 10
theorem scCol : FnScope ["place", "full", "width", "rows", "told"] ["place", "full"] (defScope sCol) := ⟨rfl, rfl, rfl, by decide +kernel, rfl, by decide +kernel, by decide +kernel⟩
theorem p2 (k : Nat) : (2 : Int) ^ k = ((2 ^ k : Nat) : Int) := by rw [Int.natCast_pow]; rfl
theorem p2_sub (k : Nat) : ((2 ^ k : Nat) : Int) - 1 = ((2 ^ k - 1 : Nat) : Int) := by
  have : 0 < 2 ^ k := Nat.two_pow_pos k
  omega
def spCol : Sp := fun vs H Q _ => ∃ (p n : Nat), vs = [.int (p : Nat), .int ((2 ^ 2 ^ n - 1 : Nat) : Int)] ∧ p < n ∧ n ≤ 12 ∧ ∀ x : Nat, IsB x (2 ^ n) (fun i => i.testBit p) → Q (.int (x : Int)) H
section
variable {P : Program} {w : World} {K : PySem.W.Frag} {mg : Str → Option Value} {base : Heap} {f : Addr} {fd : FuncData}
theorem pow_le12 {n : Nat} (h : n ≤ 12) : 2 ^ n ≤ 4096 := Nat.pow_le_pow_right (by decide) h
theorem ok_col {k : Nat} (F : FnP K "column" sCol f fd) : FnOk P w K mg base CX0 (k + 1) f fd ["place", "full"] spCol := by
  refine F.ok scCol (fun vs H Q E h => ?_) (fun cdv A outer s H vs Q E hr h => ?_)
  · obtain ⟨p, n, rfl, _⟩ := h
    rfl
  obtain ⟨p, n, rfl, hp, hn, q⟩ := h
  refine ⟨_, PSs.nox (pss_cons (ps_set (i := 2) scCol.nd rfl (Or.inl rfl) (pe_op op_oneShl pe_int (pv 0)))
 (pss_cons (ps_set (i := 3) scCol.nd rfl (Or.inl rfl) (pe_op op_shlN (pe_op op_sub (pe_op op_oneShl pe_int (pv 2)) pe_int) (pv 2)))
 (pss_cons (ps_set (i := 4) scCol.nd rfl (Or.inl rfl) (pe_op op_mulN pe_int (pv 2)))
 (pss_cons (ps_while PassesOwn.never (pt_cmpR op_lt (pv 4) (pe_bits (pv 1)) (nomark _))
 (pss_cons (ps_aug (i := 3) scCol.nd rfl (Or.inl rfl) (pe_op op_shlN (pv 3) (pv 4)) iop_or)
 (pss_one (ps_aug (i := 4) scCol.nd rfl (Or.inl rfl) pe_int iop_mul))))
 (pss_one (ps_ret (pv 3))))))), ?_⟩
  have p12 : 2 ^ p ≤ 4096 := pow_le12 (by omega)
  refine ⟨_, rfl, p, rfl, rfl, by omega, ?_⟩
  rw [p2]
  refine ⟨_, rfl, 2 ^ p, rfl, rfl, by omega, ?_⟩
  rw [p2]
  refine ⟨_, _, rfl, rfl, ?_⟩
  refine ⟨_, rfl, ((2 ^ 2 ^ p - 1 : Nat) : Int), 2 ^ p, congrArg V.int (p2_sub _), rfl, shl_ok (n := 2 ^ p) (by rw [Int.natAbs_natCast]; have : 0 < 2 ^ 2 ^ p := Nat.two_pow_pos _; omega) (by omega), ?_⟩
  rw [p2, ← Int.natCast_mul]
  refine ⟨_, rfl, 2, 2 ^ p, rfl, rfl, by decide, ?_⟩
  have e0 : 2 * 2 ^ p = 2 ^ (p + 1) := (Nat.pow_succ').symm
  rw [e0]
  refine ⟨fun m σ H' => ∃ (x j : Nat), m = n - j ∧ j ≤ n ∧ p < j ∧ H' = H ∧ IsB x (2 ^ j) (fun i => i.testBit p) ∧ σ = [some (.int (p : Nat)), some (.int ((2 ^ 2 ^ n - 1 : Nat) : Int)), some (.int ((2 ^ p : Nat) : Int)), some (.int (x : Int)), some (.int ((2 ^ j : Nat) : Int))],
    ⟨_, _, p + 1, rfl, by omega, by omega, rfl, col_first p, rfl⟩, ?_⟩
  rintro m σ H2 ⟨x, j, rfl, hj, hpj, rfl, hx, rfl⟩
  have n12 : 2 ^ n ≤ 4096 := pow_le12 hn
  refine ⟨_, rfl, _, rfl, _, rfl, _, _, rfl, rfl, ?_⟩
  rw [bits_full _ (Nat.two_pow_pos n)]
  refine ⟨_, rfl, ite2 (fun c => ?_) (fun c => ?_)⟩
  · have c1 := of_decide_eq_true c
    have c2 : 2 ^ j < 2 ^ n := by omega
    have c3 : j < n := (Nat.pow_lt_pow_iff_right (by decide)).mp c2
    refine ⟨fun σ' H' => ∃ m', m' < n - j ∧ ∃ (x j : Nat), m' = n - j ∧ j ≤ n ∧ p < j ∧ H' = H2 ∧ IsB x (2 ^ j) (fun i => i.testBit p) ∧ σ' = [some (.int (p : Nat)), some (.int ((2 ^ 2 ^ n - 1 : Nat) : Int)), some (.int ((2 ^ p : Nat) : Int)), some (.int (x : Int)), some (.int ((2 ^ j : Nat) : Int))], fun _ _ z => z, ?_⟩
    refine ⟨_, rfl, _, rfl, _, rfl, _, 2 ^ j, rfl, rfl, shl_ok (n := 2 ^ j) (by rw [Int.natAbs_natCast]; exact hx.lt) (by omega), ?_⟩
    rw [p2, ← Int.natCast_mul]
    refine ⟨_, _, rfl, rfl, ?_⟩
    refine ⟨_, rfl, _, _, rfl, rfl, .inr ⟨by decide, by decide⟩, ?_⟩
    refine ⟨n - (j + 1), by omega, _, j + 1, rfl, c3, by omega, rfl, col_more hpj hx, ?_⟩
    have em : ((2 ^ j : Nat) : Int) * 2 = ((2 ^ (j + 1) : Nat) : Int) := by rw [Nat.pow_succ, Int.natCast_mul]; rfl
    have eb := bo x (x * 2 ^ 2 ^ j)
    rw [← eb, ← em]
    rfl
  · have c1 : ¬ ((2 ^ j : Nat) : Int) < ((2 ^ n : Nat) : Int) := of_decide_eq_false (by simpa using c)
    have c3 : ¬ j < n := fun h => c1 (by have := Nat.pow_lt_pow_of_lt (a := 2) (by decide) h; omega)
    obtain rfl : j = n := by omega
    exact ⟨_, rfl, q x hx⟩
end
end My

set_option maxRecDepth 100000
set_option maxHeartbeats 4000000
namespace My
open PySem PySem.Spec PyProof.Rows L2
/-- the last place of a name -/
def lastI : List Str → Str → Option Nat
  | [], _ => none
  | x :: r, z => match lastI r z with
    | some k => some (k + 1)
    | none => if x = z then some 0 else none
theorem lastI_app (l : List Str) (x z : Str) : lastI (l ++ [x]) z = if x = z then some l.length else lastI l z := by
  induction l with
  | nil => rfl
  | cons y r ih =>
    show (match lastI (r ++ [x]) z with | some k => some (k + 1) | none => if y = z then some 0 else none) = _
    rw [ih]
    by_cases h : x = z
    · rw [if_pos h, if_pos h]; rfl
    · rw [if_neg h, if_neg h]; rfl
theorem lastI_some : ∀ {l : List Str} {z : Str}, z ∈ l → ∃ k, lastI l z = some k ∧ l[k]? = some z
  | x :: r, z, h => by
    cases e : lastI r z with
    | some k =>
      refine ⟨k + 1, by unfold lastI; rw [e], ?_⟩
      by_cases hz : z ∈ r
      · obtain ⟨k', e', hk⟩ := lastI_some hz
        rw [e] at e'
        cases e'
        exact hk
      · exfalso
        have : ∀ {l : List Str} {z : Str} {k : Nat}, lastI l z = some k → z ∈ l := by
          intro l
          induction l with
          | nil => intro z k h; cases h
          | cons y s ih =>
            intro z k h
            unfold lastI at h
            cases e2 : lastI s z with
            | some j => exact List.mem_cons_of_mem _ (ih e2)
            | none =>
              rw [e2] at h
              by_cases hy : y = z
              · rw [hy]; exact List.mem_cons_self
              · simp [hy] at h
        exact hz (this e)
    | none =>
      have hx : x = z := by
        rcases List.mem_cons.mp h with h | h
        · exact h.symm
        · obtain ⟨k, e', _⟩ := lastI_some h
          rw [e] at e'
          cases e'
      exact ⟨0, by unfold lastI; rw [e]; simp [hx], by rw [hx]; rfl⟩
/-- the row of a number -/
def rowN (ws : List Str) (r : Nat) : Str → Bool := fun z => match lastI ws z with
  | some k => r.testBit k
  | none => false
/-- a dict of a list's names, the value by the place -/
def dcN (f : Nat → V) (ws : List Str) : Nat → List (Key × V)
  | 0 => []
  | i + 1 => match ws[i]? with
    | some z => putK (dcN f ws i) (Sum.inr z) (f i)
    | none => dcN f ws i
theorem dcN_val (f : Nat → V) (ws : List Str) (z : Str) : ∀ i, i ≤ ws.length → valV (dcN f ws i) (Sum.inr z : Key) = (lastI (ws.take i) z).map f
  | 0, _ => rfl
  | i + 1, h => by
    have e : ws[i]? = some ws[i] := List.getElem?_eq_getElem (by omega)
    have e1 : dcN f ws (i + 1) = putK (dcN f ws i) (Sum.inr ws[i]) (f i) := by
      show (match ws[i]? with | some z => putK (dcN f ws i) (Sum.inr z) (f i) | none => dcN f ws i) = _
      rw [e]
    rw [e1, valV_put, dcN_val f ws z i (by omega), List.take_add_one, e]
    show _ = (lastI (ws.take i ++ [ws[i]]) z).map f
    rw [lastI_app, List.length_take, Nat.min_eq_left (by omega)]
    by_cases c : z = ws[i]
    · rw [if_pos (by rw [c]), if_pos c.symm]; rfl
    · rw [if_neg (fun y => c (Sum.inr.inj y)), if_neg (fun y => c y.symm)]
theorem putK_len (kvs : List (Key × V)) (k : Key) (v : V) : (putK kvs k v).length ≤ kvs.length + 1 := by
  unfold putK
  split
  · rw [List.length_map]; omega
  · rw [List.length_append]; exact Nat.le_refl _
theorem dcN_len (f : Nat → V) (ws : List Str) : ∀ i, (dcN f ws i).length ≤ i
  | 0 => Nat.le_refl _
  | i + 1 => by
    unfold dcN
    split
    · have := putK_len (dcN f ws i) (Sum.inr (by assumption)) (f i)
      have := dcN_len f ws i
      exact Nat.le_trans (putK_len _ _ _) (by omega)
    · have := dcN_len f ws i
      omega
theorem dcN_step {f : Nat → V} {ws : List Str} {i : Nat} {z : Str} (h : ws[i]? = some z) : dcN f ws (i + 1) = putK (dcN f ws i) (Sum.inr z) (f i) := by
  show (match ws[i]? with | some z => putK (dcN f ws i) (Sum.inr z) (f i) | none => dcN f ws i) = _
  rw [h]
/-- whether a saying holds -/
def Sy.val (row : Str → Bool) : Sy → Bool
  | .yes => true
  | .no => false
  | .nm x => row x
  | .nt a => !a.val row
  | .bi .an a b => a.val row && b.val row
  | .bi .orr a b => a.val row || b.val row
  | .bi .iff a b => !a.val row || b.val row
  | .bi .sm a b => a.val row == b.val row
theorem val_congr {p q : Str → Bool} : ∀ {s : Sy}, (∀ z ∈ s.names, p z = q z) → s.val p = s.val q
  | .yes, _ => rfl
  | .no, _ => rfl
  | .nm x, h => h x List.mem_cons_self
  | .nt a, h => by
    have := val_congr (s := a) h
    show (!a.val p) = !a.val q
    rw [this]
  | .bi k a b, h => by
    have h1 := val_congr (s := a) fun z hz => h z (List.mem_append_left _ hz)
    have h2 := val_congr (s := b) fun z hz => h z (List.mem_append_right _ hz)
    cases k <;> (unfold Sy.val; rw [h1, h2])
/-- the table of a saying -/
theorem bits_tab {m : Nat} {vs : Str → Int} {row : Str → Nat → Bool} : ∀ {s : Sy}, (∀ z ∈ s.names, ∃ x : Nat, vs z = (x : Int) ∧ IsB x m (row z)) →
    ∃ x : Nat, s.bits ((2 ^ m - 1 : Nat) : Int) vs = (x : Int) ∧ IsB x m (fun r => s.val (fun z => row z r))
  | .yes, _ => ⟨_, rfl, IsB.full m⟩
  | .no, _ => ⟨0, rfl, IsB.zero m⟩
  | .nm x, h => h x List.mem_cons_self
  | .nt a, h => by
    obtain ⟨x, e, hx⟩ := bits_tab (s := a) h
    refine ⟨(2 ^ m - 1) ^^^ x, ?_, ((IsB.full m).xor hx).congr fun r _ => by show (true != a.val _) = !a.val _; cases a.val (fun z => row z r) <;> rfl⟩
    show Builtin.bitXor _ _ = _
    rw [e, bx]
  | .bi k a b, h => by
    obtain ⟨x, e, hx⟩ := bits_tab (s := a) fun z hz => h z (List.mem_append_left _ hz)
    obtain ⟨y, e2, hy⟩ := bits_tab (s := b) fun z hz => h z (List.mem_append_right _ hz)
    cases k with
    | an => exact ⟨x &&& y, by show Builtin.bitAnd _ _ = _; rw [e, e2]; exact PySem.W.os_band x y, hx.and hy⟩
    | orr => exact ⟨x ||| y, by show Builtin.bitOr _ _ = _; rw [e, e2, bo], hx.or hy⟩
    | iff =>
      refine ⟨((2 ^ m - 1) ^^^ x) ||| y, by show Builtin.bitOr (Builtin.bitXor _ _) _ = _; rw [e, e2, bx, bo], (((IsB.full m).xor hx).or hy).congr fun r _ => ?_⟩
      show ((true != a.val _) || b.val _) = (!a.val _ || b.val _)
      cases a.val (fun z => row z r) <;> rfl
    | sm =>
      refine ⟨((2 ^ m - 1) ^^^ x) ^^^ y, by show Builtin.bitXor (Builtin.bitXor _ _) _ = _; rw [e, e2, bx, bx], (((IsB.full m).xor hx).xor hy).congr fun r _ => ?_⟩
      show ((true != a.val _) != b.val _) = (a.val _ == b.val _)
      cases a.val (fun z => row z r) <;> cases b.val (fun z => row z r) <;> rfl
/-- each truth of a list's names is a row of some number -/
theorem row_any (ws : List Str) (p : Str → Bool) : ∃ r, r < 2 ^ ws.length ∧ ∀ z ∈ ws, rowN ws r z = p z := by
  obtain ⟨r, hr, hb⟩ := num_of (fun k => match ws[k]? with | some z => p z | none => false) ws.length
  refine ⟨r, hr, fun z hz => ?_⟩
  obtain ⟨k, e, hk⟩ := lastI_some hz
  have hk2 : k < ws.length := (List.getElem?_eq_some_iff.mp hk).1
  unfold rowN
  rw [e]
  show r.testBit k = _
  rw [hb k hk2, hk]
theorem same_iff {ws : List Str} {s o : Sy} (hs : ∀ z ∈ s.names, z ∈ ws) (ho : ∀ z ∈ o.names, z ∈ ws) : (∀ r, r < 2 ^ ws.length → s.val (rowN ws r) = o.val (rowN ws r)) ↔ ∀ p, s.val p = o.val p :=
  ⟨fun h p => by
    obtain ⟨r, hr, e⟩ := row_any ws p
    have := h r hr
    rw [val_congr (s := s) fun z hz => e z (hs z hz), val_congr (s := o) fun z hz => e z (ho z hz)] at this
    exact this,
   fun h r _ => h _⟩
noncomputable def colB (n k : Nat) : Nat := (num_of (fun r => r.testBit k) (2 ^ n)).choose
theorem colB_is (n k : Nat) : IsB (colB n k) (2 ^ n) (fun r => r.testBit k) := fun i => by
  have h := (num_of (fun r => r.testBit k) (2 ^ n)).choose_spec
  by_cases c : i < 2 ^ n
  · rw [decide_eq_true c, Bool.true_and]
    exact h.2 i c
  · rw [decide_eq_false c, Bool.false_and]
    refine Nat.testBit_lt_two_pow (Nat.lt_of_lt_of_le h.1 (Nat.pow_le_pow_right (by decide) (by omega)))
end My

set_option maxRecDepth 100000
set_option maxHeartbeats 4000000
namespace My
open PySem PySem.Spec PyProof.Rows L2
abbrev sTable : Stmt := top 11
abbrev sSame : Stmt := top 12
theorem scTable : FnScope ["saying", "names", "full", "values", "place", "name"] ["saying", "names"] (defScope sTable) := ⟨rfl, rfl, rfl, by decide +kernel, rfl, by decide +kernel, by decide +kernel⟩
theorem scSame : FnScope ["saying", "other", "names"] ["saying", "other"] (defScope sSame) := ⟨rfl, rfl, rfl, by decide +kernel, rfl, by decide +kernel, by decide +kernel⟩
structure Tb (mg : Str → Option Value) (K : PySem.W.Frag) (fN fV fX fC fT : Addr) (dN dV dX dC dT : FuncData) : Prop where
  gN : mg "names_of" = some (.ref fN)
  kN : PySem.W.keepIn K (.ref fN) = true
  bN : Binds K dN ["saying"] []
  gV : mg "value_of" = some (.ref fV)
  kV : PySem.W.keepIn K (.ref fV) = true
  bV : Binds K dV ["saying", "values", "full"] []
  gX : mg "refuse_lacking" = some (.ref fX)
  kX : PySem.W.keepIn K (.ref fX) = true
  bX : Binds K dX ["names", "known"] []
  gC : mg "column" = some (.ref fC)
  kC : PySem.W.keepIn K (.ref fC) = true
  bC : Binds K dC ["place", "full"] []
  gT : mg "table" = some (.ref fT)
  kT : PySem.W.keepIn K (.ref fT) = true
  bT : Binds K dT ["saying", "names"] []
  mlen : mg "len" = none
  menumerate : mg "enumerate" = none
  msorted : mg "sorted" = none
  mset : mg "set" = none
/-- the names are few -/
def Few (s : Sy) : Prop := ∃ A : List Str, A.length ≤ 12 ∧ ∀ z ∈ s.names, z ∈ A
def spTable (K : PySem.W.Frag) (C : Addr) : Sp := fun vs H Q E => ∃ (v : V) (N : Addr) (s : Sy) (ws ys : List Str), vs = [v, .ref N] ∧ St H v s ∧ s.sz < 200 ∧ s.dep ≤ 20 ∧ Few s ∧ SqL K H N (ws.map V.str) ∧ ws.length ≤ 12 ∧ sortedS ys = true ∧ ys.Nodup ∧ (∀ z, z ∈ ys ↔ z ∈ s.names) ∧
  (lackL ws ys = none → ∀ (x : Nat) H', Same H H' → IsB x (2 ^ ws.length) (fun r => s.val (rowN ws r)) → Q (.int (x : Int)) H') ∧ (∀ z, lackL ws ys = some z → ∀ d H', Same H H' → H d = none → H' d = some (exd d [("name", .str z)]) → E (.ref C) (some d) H')
def spSame : Sp := fun vs H Q _ => ∃ (v u : V) (s o : Sy) (A : List Str), vs = [v, u] ∧ St H v s ∧ St H u o ∧ s.sz < 200 ∧ o.sz < 200 ∧ s.dep ≤ 20 ∧ o.dep ≤ 20 ∧ A.length ≤ 12 ∧ (∀ z ∈ s.names, z ∈ A) ∧ (∀ z ∈ o.names, z ∈ A) ∧
  ∀ b H', (b = true ↔ ∀ p, s.val p = o.val p) → Same H H' → Q (.bl b) H'
section
variable {P : Program} {w : World} {K : PySem.W.Frag} {mg : Str → Option Value} {base : Heap} {f C fN fV fX fC fT : Addr} {fd dN dV dX dC dT : FuncData}
theorem ok_table (F : FnP K "table" sTable f fd) (GN : FnOk P w K mg base CX0 2 fN dN ["saying"] spNames) (GV : FnOk P w K mg base CX0 21 fV dV ["saying", "values", "full"] (spValue 20)) (GX : FnOk P w K mg base (L2.CX P w) 2 fX dX ["names", "known"] (spRefuse K C)) (GC : FnOk P w K mg base CX0 1 fC dC ["place", "full"] spCol)
    (T0 : Tb mg K fN fV fX fC fT dN dV dX dC dT) : FnOk P w K mg base (L2.CX P w) 22 f fd ["saying", "names"] (spTable K C) := by
  refine F.ok scTable (fun vs H Q E h => ?_) (fun cdv A outer s H vs Q E hr21 h => ?_)
  · obtain ⟨v, N, sy, ws, ys, rfl, _⟩ := h
    rfl
  obtain ⟨v, N, sy, ws, ys, rfl, hst, hsz, hdep, ⟨A0, hA0, hA⟩, hN, hw, hso, hnd, hmem, q, qe⟩ := h
  have hu := hu_of hr21
  have hr2 : Room 2 _ := hr21.mono (by omega)
  have hr1 : Room 1 _ := hr21.mono (by omega)
  refine ⟨_, (pss_cons (ps_expr (pe_callS GX hr2 (by rfl) T0.gX T0.kX T0.bX (fun σ => passAt (takes_of rfl rfl rfl rfl) σ) (pa_cons (pe_call GN hr2 (by rfl) T0.gN T0.kN T0.bN .nil pass0 (pa_cons (pv 0) pa_nil)) (pa_cons (pv 1) pa_nil))))
 (pss_cons (ps_set (i := 2) scTable.nd rfl (Or.inr rfl) (pe_op op_subN (pe_op op_oneShl pe_int (pe_op op_oneShl pe_int (pe_callB call_len_seq (by rfl) T0.mlen PySem.boot_len (pa_cons (pv 1) pa_nil)))) pe_int))
 (pss_cons (ps_setDc (i := 3) (own := [("place", 4), ("name", 5)]) (g := gTup K 2 (gCons (gName 4) (gCons (gName 5) gNil))) (tt := tYes) (by rfl) scTable.nd rfl rfl (swd_true rfl rfl rfl (by decide +kernel)) (pi_enum (by rfl) T0.menumerate (pa_cons (pv 1) pa_nil)) (blkOk_by (own := [("place", 4), ("name", 5)]) (N := ["saying", "names", "full", "values", "place", "name"]) (sc := defScope sTable) (by decide +kernel)) (fun _ _ _ _ _ => pg_tup (by rfl) (pgs_cons (pg_name (i := 4) scTable.nd rfl (Or.inl rfl)) (pgs_cons (pg_name (i := 5) scTable.nd rfl (Or.inl rfl)) pgs_nil))) (fun _ _ _ _ _ => pts_nil) (fun _ _ _ _ _ => (pv 5)) (fun _ _ _ _ _ => (pe_call GC hr1 (by rfl) T0.gC T0.kC T0.bC .nil pass0 (pa_cons (pv 4) (pa_cons (pv 2) pa_nil)))))
 (pss_one (ps_ret (pe_call GV hr21 (by rfl) T0.gV T0.kV T0.bV .nil pass0 (pa_cons (pv 0) (pa_cons (pv 3) (pa_cons (pv 2) pa_nil))))))))), ?_⟩
  obtain ⟨n, hn⟩ : ∃ n, n = ws.length := ⟨_, rfl⟩
  have n12 : n ≤ 12 := by omega
  have hln : (ws.map V.str).length = n := by rw [List.length_map, hn]
  refine ⟨_, rfl, v, sy, rfl, hst, hsz, ⟨A0, by omega, hA⟩, fun H1 p ys' s1 np e1 so1 nd1 mem1 => ?_⟩
  obtain rfl : ys' = ys := sorted_alike so1 hso nd1 hnd (fun z => (mem1 z).trans (hmem z).symm)
  have hN1 := s1.seq hN
  refine ⟨_, rfl, p, N, ys', ws, rfl, SqL.of e1, hN1, fun hl H2 s2 => ?_, fun z hl d H2 s2 nd ed => ?_⟩
  case refine_2 => exact qe z hl d H2 (s1.trans s2) (s1.free nd) ed
  have hN2 := s2.seq hN1
  have s02 := s1.trans s2
  refine ⟨_, rfl, N, _, rfl, .inl hN2, ?_⟩
  rw [hln]
  refine ⟨n, rfl, rfl, by omega, ?_⟩
  rw [p2]
  have p12 := pow_le12 n12
  refine ⟨2 ^ n, rfl, rfl, by omega, ?_⟩
  rw [p2]
  refine ⟨2 ^ 2 ^ n, 1, rfl, rfl, Nat.one_le_two_pow, ?_⟩
  refine ⟨_, rfl, N, _, rfl, hN2, fun D nD => dc_it (walk_enum (K := K) (a := N) (xs := ws.map V.str)) (fun i H' => H' D = some (.dK (dcN (fun k => .int (colB n k : Nat)) ws i)) ∧ Same H2 H') ?_ ?_ ?_ ?_⟩
  · exact ⟨upd_same, same_new nD _⟩
  · rintro i H' _ ⟨_, s3⟩
    exact s3.seq hN2
  · rintro i x H3 H4 hi ⟨eD, s3⟩ ⟨T, a, b, rfl, nT, rfl, ea, eb⟩
    obtain rfl : V.int (i : Nat) = a := Option.some.inj ea
    rw [hln] at hi
    obtain ⟨z, hz, rfl⟩ : ∃ z, ws[i]? = some z ∧ b = V.str z := by
      have eb : (ws.map V.str)[i]? = some b := eb
      rw [List.getElem?_map] at eb
      cases e : ws[i]? with
      | none =>
        rw [e] at eb
        cases eb
      | some z =>
        rw [e] at eb
        exact ⟨z, rfl, (Option.some.inj eb).symm⟩
    refine ⟨T, _, rfl, .inl (.inl upd_same), rfl, _, _, rfl, _, _, rfl, rfl, rfl, ?_⟩
    have s4 := s3.trans (same_new nT (.tup [V.int (i : Nat), V.str z]))
    have eD4 : (upd H3 T (.tup [V.int (i : Nat), V.str z])) D = some (.dK (dcN (fun k => .int (colB n k : Nat)) ws i)) := by
      rw [upd_ne (ne_of_none eD nT)]
      exact eD
    generalize upd H3 T (.tup [V.int (i : Nat), V.str z]) = H5 at s4 eD4 ⊢
    refine ⟨_, rfl, _, rfl, _, rfl, i, n, rfl, hi, n12, fun x hx => ?_⟩
    refine ⟨_, Sum.inr z, rfl, eD4, ?_, ?_, ?_⟩
    · exact small1000 (by have := dcN_len (fun k => V.int (colB n k : Nat)) ws i; omega)
    · rw [(IsB.eq_iff hx (colB_is n i)).mpr fun _ _ => rfl, upd_same, dcN_step hz]
    · intro c o h
      rw [upd_ne (ne_of_none h nD)]
      exact s4 _ _ h
  · rintro H3 ⟨eD, s3⟩
    rw [hln] at eD
    have all : ∀ z ∈ sy.names, ∃ k, lastI ws z = some k := fun z hz => by
      have hzw : z ∈ ws := by
        unfold lackL at hl
        have := List.find?_eq_none.mp hl z ((mem1 z).mpr hz)
        simpa using this
      obtain ⟨k, e, _⟩ := lastI_some hzw
      exact ⟨k, e⟩
    refine ⟨_, rfl, _, rfl, _, rfl, v, D, sy, _, ((2 ^ 2 ^ n - 1 : Nat) : Int), (fun z => match lastI ws z with | some k => ((colB n k : Nat) : Int) | none => 0), rfl, st_keep (TupK.of (s02.trans s3)) hst, hdep, eD, fun z hz => ?_, fun H4 s4 => ?_⟩
    · obtain ⟨k, e⟩ := all z hz
      rw [dcN_val _ _ _ _ (by omega), hn, List.take_length]
      show Option.map _ (lastI ws z) = some (V.int (match lastI ws z with | some k => ((colB ws.length k : Nat) : Int) | none => 0))
      rw [e]
      rfl
    · obtain ⟨x, e, hx⟩ := bits_tab (m := 2 ^ n) (vs := fun z => match lastI ws z with | some k => ((colB n k : Nat) : Int) | none => 0) (row := fun z r => rowN ws r z) (s := sy) fun z hz => by
        obtain ⟨k, e⟩ := all z hz
        refine ⟨colB n k, by rw [e], (colB_is n k).congr fun r _ => ?_⟩
        unfold rowN
        rw [e]
      rw [e]
      rw [hn] at hx
      exact q hl x H4 ((s02.trans s3).trans s4) hx
theorem ok_same (F : FnP K "same" sSame f fd) (GN : FnOk P w K mg base CX0 2 fN dN ["saying"] spNames) (GT : FnOk P w K mg base CX0 22 fT dT ["saying", "names"] (fun vs H Q _ => spTable K C vs H Q fun _ _ _ => False))
    (T0 : Tb mg K fN fV fX fC fT dN dV dX dC dT) : FnOk P w K mg base CX0 23 f fd ["saying", "other"] spSame := by
  refine F.ok scSame (fun vs H Q E h => ?_) (fun cdv A outer s H vs Q E hr22 h => ?_)
  · obtain ⟨v, u, sy, so, A0, rfl, _⟩ := h
    rfl
  obtain ⟨v, u, sy, so, A0, rfl, hs, ho, hsz, hoz, hsd, hod, hA0, hsA, hoA, q⟩ := h
  have hu := hu_of hr22
  have hr2 : Room 2 _ := hr22.mono (by omega)
  refine ⟨_, PSs.nox (pss_cons (ps_set (i := 2) scSame.nd rfl (Or.inl rfl) (pe_callB (cr_sortedSS rfl) (by rfl) T0.msorted (by decide +kernel) (pa_cons (pe_callTy (cr_setOfS rfl) (by rfl) T0.mset (by decide +kernel) (pa_cons (pe_op op_cat (pe_call GN hr2 (by rfl) T0.gN T0.kN T0.bN .nil pass0 (pa_cons (pv 0) pa_nil)) (pe_call GN hr2 (by rfl) T0.gN T0.kN T0.bN .nil pass0 (pa_cons (pv 1) pa_nil))) pa_nil)) pa_nil)))
 (pss_one (ps_ret (pe_cmpR op_eq (pe_call GT hr22 (by rfl) T0.gT T0.kT T0.bT .nil pass0 (pa_cons (pv 0) (pa_cons (pv 2) pa_nil))) (pe_call GT hr22 (by rfl) T0.gT T0.kT T0.bT .nil pass0 (pa_cons (pv 1) (pa_cons (pv 2) pa_nil))) (nomark _))))), ?_⟩
  refine ⟨_, rfl, v, sy, rfl, hs, hsz, ⟨A0, by omega, hsA⟩, fun H1 p1 ys1 s1 np1 e1 so1 nd1 mem1 => ?_⟩
  have ho1 := st_keep (TupK.of s1) ho
  refine ⟨_, rfl, u, so, rfl, ho1, hoz, ⟨A0, by omega, hoA⟩, fun H2 p2 ys2 s2 np2 e2 so2 nd2 mem2 => ?_⟩
  have l1 := sub_len _ A0 nd1 (fun z hz => hsA z ((mem1 z).mp hz))
  have l2 := sub_len _ A0 nd2 (fun z hz => hoA z ((mem2 z).mp hz))
  refine ⟨p1, p2, _, _, rfl, rfl, s2 _ _ e1, e2, ?_, fun p3 n3 => ?_⟩
  · rw [List.length_map, List.length_map]
    exact small (by omega)
  have s3 := same_new n3 (.lst (ys1.map V.str ++ ys2.map V.str))
  have e3 : (upd H2 p3 (.lst (ys1.map V.str ++ ys2.map V.str))) p3 = some (.lst ((ys1 ++ ys2).map V.str)) := by rw [upd_same, List.map_append]
  have e13 := s3 _ _ (s2 _ _ e1)
  have e23 := s3 _ _ e2
  generalize upd H2 p3 (.lst (ys1.map V.str ++ ys2.map V.str)) = H3 at s3 e3 e13 e23 ⊢
  refine ⟨p3, ys1 ++ ys2, rfl, SqL.of e3, by rw [List.length_append]; omega, fun p4 ks n4 nk mk lk => ?_⟩
  have s4 := same_new n4 (SetSO P w p4 ks)
  refine ⟨p4, ks, rfl, upd_same, by rw [List.length_append] at lk; omega, fun zs p5 pm so5 n5 => ?_⟩
  have s5 := same_new n5 (.lst (zs.map V.str))
  have e5 : (upd (upd H3 p4 (SetSO P w p4 ks)) p5 (.lst (zs.map V.str))) p5 = some (.lst (zs.map V.str)) := upd_same
  have s05 := (((s1.trans s2).trans s3).trans s4).trans s5
  have mz : ∀ z, z ∈ zs ↔ z ∈ sy.names ∨ z ∈ so.names := fun z => by
    rw [pm.mem_iff, mk z, List.mem_append, mem1 z, mem2 z]
  have hzs : zs.length ≤ 12 := by
    have := sub_len _ A0 (pm.nodup_iff.mpr nk) (fun z hz => ((mz z).mp hz).elim (hsA z) (hoA z))
    omega
  have lk1 : lackL zs ys1 = none := by
    unfold lackL
    refine List.find?_eq_none.mpr fun z hz => ?_
    have : z ∈ zs := (mz z).mpr (.inl ((mem1 z).mp hz))
    simp [this]
  have lk2 : lackL zs ys2 = none := by
    unfold lackL
    refine List.find?_eq_none.mpr fun z hz => ?_
    have : z ∈ zs := (mz z).mpr (.inr ((mem2 z).mp hz))
    simp [this]
  have hs5 := st_keep (TupK.of s05) hs
  have ho5 := st_keep (TupK.of s05) ho
  refine ⟨_, rfl, _, rfl, v, p5, sy, zs, ys1, rfl, hs5, hsz, hsd, ⟨A0, hA0, hsA⟩, SqL.of e5, hzs, so1, nd1, mem1, fun _ x H6 s6 hx => ?_, fun z hz => by rw [lk1] at hz; cases hz⟩
  refine ⟨_, rfl, _, rfl, u, p5, so, zs, ys2, rfl, st_keep (TupK.of s6) ho5, hoz, hod, ⟨A0, hA0, hoA⟩, SqL.of (s6 _ _ e5), hzs, so2, nd2, mem2, fun _ y H7 s7 hy => ?_, fun z hz => by rw [lk2] at hz; cases hz⟩
  refine ⟨rfl, ?_⟩
  refine q _ H7 ?_ ((s05.trans s6).trans s7)
  rw [decide_eq_true_iff, ← same_iff (ws := zs) (s := sy) (o := so) (fun z hz => (mz z).mpr (.inl hz)) (fun z hz => (mz z).mpr (.inr hz)), ← IsB.eq_iff hx hy]
  exact ⟨fun e => by injection e with e; exact Int.ofNat.inj e, fun e => by rw [e]⟩
end
end My

set_option maxRecDepth 100000
set_option maxHeartbeats 4000000
namespace My
open PySem PySem.Spec PyProof.Rows L2
abbrev sLV : Stmt := top 18
theorem scLV : FnScope ["_law_saying_here", "_law_row_here", "_law_word", "_law_some", "_law_part"] ["_law_saying_here", "_law_row_here"] (defScope sLV) := ⟨rfl, rfl, rfl, by decide +kernel, rfl, by decide +kernel, by decide +kernel⟩
structure Lv (mg : Str → Option Value) (K : PySem.W.Frag) (fV : Addr) (dV : FuncData) : Prop where
  gV : mg "_law_value" = some (.ref fV)
  kV : PySem.W.keepIn K (.ref fV) = true
  bV : Binds K dV ["_law_saying_here", "_law_row_here"] []
def spLV (n : Nat) : Sp := fun vs H Q _ => ∃ (v : V) (d : Addr) (s : Sy) (kvs : List (Key × V)) (row : Str → Bool), vs = [v, .ref d] ∧ St H v s ∧ s.dep ≤ n ∧ H d = some (.dK kvs) ∧ (∀ z ∈ s.names, valV kvs (Sum.inr z : Key) = some (.bl (row z))) ∧
  ∀ H', Same H H' → Q (.bl (s.val row)) H'
theorem cut_tail (x : V) (xs : List V) : cutV (x :: xs) (some 1) none = xs := by
  unfold cutV
  rw [show HT.sIx (x :: xs).length 0 (some 1) = min 1 (x :: xs).length from HT.sIx_nat _ _ 1, HT.sIx_none, List.length_cons]
  have e1 : min 1 (xs.length + 1) = 1 := by omega
  rw [e1]
  show List.take (xs.length + 1 - 1) xs = xs
  rw [Nat.add_sub_cancel]
  exact List.take_length
theorem not_whole {x : V} {xs : List V} : ¬ (HT.sIx (x :: xs).length 0 (some 1) = 0 ∧ HT.sIx (x :: xs).length (x :: xs).length none = (x :: xs).length) := fun z => by
  have z1 := z.1
  rw [show HT.sIx (x :: xs).length 0 (some 1) = min 1 (x :: xs).length from HT.sIx_nat _ _ 1, List.length_cons] at z1
  omega
section
variable {P : Program} {w : World} {K : PySem.W.Frag} {mg : Str → Option Value} {base : Heap} {f : Addr} {fd : FuncData}
theorem ok_lvalue {n : Nat} (F : FnP K "_law_value" sLV f fd) (GR : FnOk P w K mg base CX0 (1 + n) f fd ["_law_saying_here", "_law_row_here"] (spLV n)) (T0 : Lv mg K f fd) :
    FnOk P w K mg base CX0 (1 + n + 1) f fd ["_law_saying_here", "_law_row_here"] (spLV (n + 1)) := by
  refine F.ok scLV (fun vs H Q E h => ?_) (fun cdv A outer s H vs Q E hr h => ?_)
  · obtain ⟨v, d, sy, kvs, row, rfl, _⟩ := h
    rfl
  obtain ⟨v, d, sy, kvs, row, rfl, hst, hdep, hd, hrow, q⟩ := h
  have hu := hu_of hr
  refine ⟨_, PSs.nox (pss_cons (ps_set (i := 2) scLV.nd rfl (Or.inl rfl) (pe_ix ix_tup (pv 0) pe_int (fun _ _ => rfl)))
 (pss_cons (ps_if (pt_cmpR op_eq (pv 2) pe_str (nomark _))
 (pss_one (ps_ret (pe_dget hu (pv 1) (pe_ix ix_tup (pv 0) pe_int (fun _ _ => rfl)) (fun _ _ => rfl)))) pss_nil)
 (pss_cons (ps_setLc (i := 3) (own := [("_law_part", 4)]) (g := gName 4) (tt := tYes) (by rfl) scLV.nd rfl rfl (sw_true rfl rfl rfl (by decide +kernel)) (pi_tup (pe_slice sl_tupA (pv 0) (po_some pe_int) po_none)) (blkOk_by (own := [("_law_part", 4)]) (N := ["_law_saying_here", "_law_row_here", "_law_word", "_law_some", "_law_part"]) (sc := defScope sLV) (by decide +kernel)) (fun _ _ _ _ _ => pg_name (i := 4) scLV.nd rfl (Or.inl rfl)) (fun _ _ _ _ _ => pts_nil) (fun _ _ _ _ _ => (pe_call GR hr (by rfl) T0.gV T0.kV T0.bV .nil pass0 (pa_cons (pv 4) (pa_cons (pv 1) pa_nil)))))
 (pss_cons (ps_if (pt_cmpR op_eq (pv 2) pe_str (nomark _))
 (pss_one (ps_ret (pe_not (pe_ix ix_list (pv 3) pe_int (fun _ _ => rfl))))) pss_nil)
 (pss_cons (ps_if (pt_cmpR op_eq (pv 2) pe_str (nomark _))
 (pss_one (ps_ret (pe_and (pe_ix ix_list (pv 3) pe_int (fun _ _ => rfl)) (pe_one (pe_ix ix_list (pv 3) pe_int (fun _ _ => rfl)))))) pss_nil)
 (pss_cons (ps_if (pt_cmpR op_eq (pv 2) pe_str (nomark _))
 (pss_one (ps_ret (pe_or (pe_ix ix_list (pv 3) pe_int (fun _ _ => rfl)) (pe_one (pe_ix ix_list (pv 3) pe_int (fun _ _ => rfl)))))) pss_nil)
 (pss_cons (ps_if (pt_cmpR op_eq (pv 2) pe_str (nomark _))
 (pss_one (ps_ret (pe_or (pe_ix ix_list (pv 3) pe_int (fun _ _ => rfl)) (pe_one (pe_not (pe_ix ix_list (pv 3) pe_int (fun _ _ => rfl))))))) pss_nil)
 (pss_cons (ps_if (pt_cmpR op_eq (pv 2) pe_str (nomark _))
 (pss_one (ps_ret (pe_cmpR op_eq (pe_ix ix_list (pv 3) pe_int (fun _ _ => rfl)) (pe_ix ix_list (pv 3) pe_int (fun _ _ => rfl)) (nomark _)))) pss_nil)
 (pss_one (ps_ret (pe_cmpR op_eq (pv 2) pe_str (nomark _)))))))))))), ?_⟩
  obtain ⟨a, xs, rfl, ea, hx2, hk⟩ := st_open hst
  have ha : SqT K H a (.str sy.word :: xs) := .inl (.inl ea)
  refine ⟨_, rfl, a, _, _, _, rfl, rfl, ha, at0, ?_⟩
  refine ⟨_, rfl, rfl, _, rfl, ite2 (fun cw => ?_) (fun cw => ?_)⟩
  · have ew : sy.word = "name" := V.str.inj (of_decide_eq_true cw)
    obtain ⟨x, rfl⟩ : ∃ x, sy = .nm x := by
      cases sy with
      | nm x => exact ⟨x, rfl⟩
      | yes => exact absurd ew (by decide)
      | no => exact absurd ew (by decide)
      | nt a => exact absurd ew (by show ¬ ("not" : Str) = "name"; decide)
      | bi k a b => exact absurd ew (B4.nn k)
    obtain rfl : xs = [.str x] := by
      cases hst with
      | nm _ h =>
        rw [ea] at h
        have := Option.some.inj h
        injection this with this
        injection this
    have hg := DGet.k (k := (Sum.inr x : Key)) hd
    rw [hrow x (List.mem_singleton_self x)] at hg
    refine ⟨_, rfl, _, rfl, a, _, _, _, rfl, rfl, ha, at1, d, _, rfl, hg, ?_⟩
    exact q H (Same.refl _)
  · have ew : sy.word ≠ "name" := fun z => cw (decide_eq_true (by rw [z]))
    rw [if_neg ew] at hk
    refine ⟨_, rfl, 1, rfl, a, _, rfl, ha, fun z => absurd z not_whole, fun _ pp np => ?_⟩
    rw [cut_tail]
    have s1 := same_new np (.tup xs)
    have e1 : SqT K (upd H pp (.tup xs)) pp xs := .inl (.inl upd_same)
    generalize upd H pp (.tup xs) = H1 at s1 e1 ⊢
    have hk1 := paired_imp (fun _ _ h => st_keep (TupK.of s1) h) hk
    have hlk := paired_len hk1
    refine ⟨pp, rfl, ⟨_, e1⟩, fun D nD => lc_tup (K := K) (a := pp) (xs := xs) (fun i H' => H' D = some (.lst ((sy.kids.take i).map fun c => .bl (c.val row))) ∧ Same H1 H') ?_ ?_ ?_ ?_⟩
    · exact ⟨upd_same, same_new nD _⟩
    · rintro i H' _ ⟨_, s2⟩
      rcases e1 with (h | ⟨o, h⟩) | h
      · exact .inl (.inl (s2 _ _ h))
      · exact .inl (.inr ⟨o, s2 _ _ h⟩)
      · exact .inr h
    · rintro i y H2 hi ⟨eD, s2⟩
      obtain ⟨cs, hcs, hst1⟩ : ∃ cs, sy.kids[i]? = some cs ∧ St H1 y cs := by
        have : ∀ {l : List V} {m : List Sy}, Paired (St H1) l m → ∀ {j : Nat} {y : V}, l[j]? = some y → ∃ c, m[j]? = some c ∧ St H1 y c := by
          intro l m h
          induction h with
          | nil => intro j y e; simp at e
          | cons x r ih =>
            intro j y e
            cases j with
            | zero => exact ⟨_, rfl, by cases Option.some.inj e; exact x⟩
            | succ j => exact ih e
        exact this hk1 hi
      have hmem := List.mem_of_getElem? hcs
      refine ⟨rfl, ?_⟩
      refine ⟨_, rfl, _, rfl, y, d, cs, kvs, row, rfl, st_keep (TupK.of s2) hst1, by have := kid_dep hmem; omega, s2 _ _ (s1 _ _ hd), fun z hz => hrow z (kid_names hmem z hz), fun H3 s3 => ?_⟩
      refine ⟨_, s3 _ _ eD, ?_, ?_, ?_⟩
      · rw [List.length_map, List.length_take]
        exact small1000 (by have := kids_len sy; omega)
      · rw [upd_same, List.take_add_one, hcs, List.map_append]
        rfl
      · intro b o h
        rw [upd_ne (ne_of_none h nD)]
        exact s3 _ _ (s2 _ _ h)
    · rintro H2 ⟨eD, s2⟩
      rw [hlk, List.take_length] at eD
      have s12 := s1.trans s2
      have q2 := q H2 s12
      cases sy with
      | nm x => exact absurd rfl ew
      | yes =>
        refine ⟨_, rfl, rfl, _, rfl, ifF rfl ?_⟩
        refine ⟨_, rfl, rfl, _, rfl, ifF rfl ?_⟩
        refine ⟨_, rfl, rfl, _, rfl, ifF rfl ?_⟩
        refine ⟨_, rfl, rfl, _, rfl, ifF rfl ?_⟩
        refine ⟨_, rfl, rfl, _, rfl, ifF rfl ?_⟩
        refine ⟨_, rfl, rfl, ?_⟩
        exact q2
      | no =>
        refine ⟨_, rfl, rfl, _, rfl, ifF rfl ?_⟩
        refine ⟨_, rfl, rfl, _, rfl, ifF rfl ?_⟩
        refine ⟨_, rfl, rfl, _, rfl, ifF rfl ?_⟩
        refine ⟨_, rfl, rfl, _, rfl, ifF rfl ?_⟩
        refine ⟨_, rfl, rfl, _, rfl, ifF rfl ?_⟩
        refine ⟨_, rfl, rfl, ?_⟩
        exact q2
      | nt b =>
        have eD' : H2 D = some (.lst [.bl (b.val row)]) := eD
        refine ⟨_, rfl, rfl, _, rfl, ifT rfl ?_⟩
        exact ⟨_, rfl, D, _, _, _, rfl, rfl, SqL.of eD', at0, _, rfl, q2⟩
      | bi k b c =>
        have eD' : H2 D = some (.lst [.bl (b.val row), .bl (c.val row)]) := eD
        cases k with
        | an =>
          refine ⟨_, rfl, rfl, _, rfl, ifF rfl ?_⟩
          refine ⟨_, rfl, rfl, _, rfl, ifT rfl ?_⟩
          refine ⟨_, rfl, D, _, _, _, rfl, rfl, SqL.of eD', at0, _, rfl, ?_⟩
          have e : Sy.val row (.bi .an b c) = (b.val row && c.val row) := rfl
          rw [e] at q2
          cases hb : b.val row with
          | true =>
            rw [hb] at q2
            refine iteT ?_
            exact ⟨_, rfl, D, _, _, _, rfl, rfl, SqL.of eD', at1, q2⟩
          | false =>
            rw [hb] at q2
            refine iteF ?_
            exact q2
        | orr =>
          refine ⟨_, rfl, rfl, _, rfl, ifF rfl ?_⟩
          refine ⟨_, rfl, rfl, _, rfl, ifF rfl ?_⟩
          refine ⟨_, rfl, rfl, _, rfl, ifT rfl ?_⟩
          refine ⟨_, rfl, D, _, _, _, rfl, rfl, SqL.of eD', at0, _, rfl, ?_⟩
          have e : Sy.val row (.bi .orr b c) = (b.val row || c.val row) := rfl
          rw [e] at q2
          cases hb : b.val row with
          | true =>
            rw [hb] at q2
            refine iteT ?_
            exact q2
          | false =>
            rw [hb] at q2
            refine iteF ?_
            exact ⟨_, rfl, D, _, _, _, rfl, rfl, SqL.of eD', at1, q2⟩
        | iff =>
          refine ⟨_, rfl, rfl, _, rfl, ifF rfl ?_⟩
          refine ⟨_, rfl, rfl, _, rfl, ifF rfl ?_⟩
          refine ⟨_, rfl, rfl, _, rfl, ifF rfl ?_⟩
          refine ⟨_, rfl, rfl, _, rfl, ifT rfl ?_⟩
          refine ⟨_, rfl, D, _, _, _, rfl, rfl, SqL.of eD', at1, _, rfl, ?_⟩
          have e : Sy.val row (.bi .iff b c) = (!b.val row || c.val row) := rfl
          rw [e] at q2
          cases hc : c.val row with
          | true =>
            rw [hc, Bool.or_true] at q2
            refine iteT ?_
            exact q2
          | false =>
            rw [hc, Bool.or_false] at q2
            refine iteF ?_
            exact ⟨_, rfl, D, _, _, _, rfl, rfl, SqL.of eD', at0, _, rfl, q2⟩
        | sm =>
          refine ⟨_, rfl, rfl, _, rfl, ifF rfl ?_⟩
          refine ⟨_, rfl, rfl, _, rfl, ifF rfl ?_⟩
          refine ⟨_, rfl, rfl, _, rfl, ifF rfl ?_⟩
          refine ⟨_, rfl, rfl, _, rfl, ifF rfl ?_⟩
          refine ⟨_, rfl, rfl, _, rfl, ifT rfl ?_⟩
          refine ⟨_, rfl, D, _, _, _, rfl, rfl, SqL.of eD', at0, _, rfl, D, _, _, _, rfl, rfl, SqL.of eD', at1, rfl, ?_⟩
          have e : decide (V.bl (b.val row) = V.bl (c.val row)) = Sy.val row (.bi .sm b c) := by
            show _ = (b.val row == c.val row)
            cases b.val row <;> cases c.val row <;> rfl
          rw [e]
          exact q2
theorem no_lvalue : FnOk P w K mg base CX0 (1 + 0) f fd ["_law_saying_here", "_law_row_here"] (spLV 0) := by
  have no : ∀ vs H Q E, ¬ spLV 0 vs H Q E := fun vs H Q E h => by
    obtain ⟨v, d, sy, kvs, row, _, _, h1, _⟩ := h
    cases sy <;> (unfold Sy.dep at h1; omega)
  exact ⟨fun vs H Q E h => absurd h (no vs H Q E), fun A outer s H args us vs Q E _ _ _ _ h => absurd h (no vs H Q E)⟩
theorem all_lvalue (F : FnP K "_law_value" sLV f fd) (T0 : Lv mg K f fd) : ∀ n : Nat, FnOk P w K mg base CX0 (1 + n) f fd ["_law_saying_here", "_law_row_here"] (spLV n)
  | 0 => no_lvalue
  | n + 1 => ok_lvalue F (all_lvalue F T0 n) T0
end
end My

set_option maxRecDepth 100000
set_option maxHeartbeats 4000000
namespace My
open PySem PySem.Spec PyProof.Rows L2
abbrev sLR : Stmt := top 19
abbrev sTo : Stmt := top 20
abbrev sAl : Stmt := top 21
theorem scLR : FnScope ["_law_names", "_law_number", "_law_k"] ["_law_names", "_law_number"] (defScope sLR) := ⟨rfl, rfl, rfl, by decide +kernel, rfl, by decide +kernel, by decide +kernel⟩
theorem scTo : FnScope ["_law_saying_here", "_law_names", "_law_found", "_law_caught", "e"] ["_law_saying_here", "_law_names"] (defScope sTo) := ⟨rfl, rfl, rfl, by decide +kernel, rfl, by decide +kernel, by decide +kernel⟩
theorem scAl : FnScope ["_law_one", "_law_other", "_law_names", "_law_rows", "_law_number", "_law_row_here"] ["_law_one", "_law_other", "_law_names"] (defScope sAl) := ⟨rfl, rfl, rfl, by decide +kernel, rfl, by decide +kernel, by decide +kernel⟩
theorem at0_ {α : Type} {xs : List α} {i : Nat} {x : α} (h : xs[i]? = some x) : atI xs (0 + (i : Int)) = some x := by
  rw [Int.zero_add]
  exact atI_nat h
theorem paired_get {α β : Type} {F : α → β → Prop} : ∀ {l : List α} {m : List β}, Paired F l m → ∀ {j : Nat} {y : α}, l[j]? = some y → ∃ c, m[j]? = some c ∧ F y c := by
  intro l m h
  induction h with
  | nil => intro j y e; simp at e
  | cons x r ih =>
    intro j y e
    cases j with
    | zero => exact ⟨_, rfl, by cases Option.some.inj e; exact x⟩
    | succ j => exact ih e
/-- the pairs of a list's names -/
def prN (f : Nat → V) (ws : List Str) : Nat → List (Key × V)
  | 0 => []
  | i + 1 => prN f ws i ++ (match ws[i]? with | some z => [((Sum.inr z : Key), f i)] | none => [])
theorem merge_app : ∀ (l acc : List (Key × V)) (x : Key × V), mergeK acc (l ++ [x]) = putK (mergeK acc l) x.1 x.2
  | [], _, _ => rfl
  | y :: r, acc, x => merge_app r (putK acc y.1 y.2) x
theorem merged_pr (f : Nat → V) (ws : List Str) : ∀ i, mergeK [] (prN f ws i) = dcN f ws i
  | 0 => rfl
  | i + 1 => by
    show mergeK [] (prN f ws i ++ (match ws[i]? with | some z => [((Sum.inr z : Key), f i)] | none => [])) = (match ws[i]? with | some z => putK (dcN f ws i) (Sum.inr z) (f i) | none => dcN f ws i)
    cases e : ws[i]? with
    | none => rw [List.append_nil]; exact merged_pr f ws i
    | some z => rw [merge_app, merged_pr f ws i]
structure Lr (mg : Str → Option Value) (K : PySem.W.Frag) (fR fV : Addr) (dR dV : FuncData) : Prop where
  mdict : mg "dict" = none
  mrange : mg "range" = none
  mlen : mg "len" = none
  gR : mg "_law_row" = some (.ref fR)
  kR : PySem.W.keepIn K (.ref fR) = true
  bR : Binds K dR ["_law_names", "_law_number"] []
  gV : mg "_law_value" = some (.ref fV)
  kV : PySem.W.keepIn K (.ref fV) = true
  bV : Binds K dV ["_law_saying_here", "_law_row_here"] []
/-- a dict tells the row of a number -/
def RowIs (kvs : List (Key × V)) (ws : List Str) (r : Nat) : Prop := ∀ z ∈ ws, valV kvs (Sum.inr z : Key) = some (.bl (rowN ws r z))
def spLR (K : PySem.W.Frag) : Sp := fun vs H Q _ => ∃ (N : Addr) (ws : List Str) (r : Nat), vs = [.ref N, .int (r : Nat)] ∧ SqL K H N (ws.map V.str) ∧ ws.length ≤ 12 ∧
  ∀ H' p kvs, Same H H' → H p = none → H' p = some (.dK kvs) → RowIs kvs ws r → Q (.ref p) H'
structure Tl (mg : Str → Option Value) (K : PySem.W.Frag) (fH C fI : Addr) (dH : FuncData) (bmB : List Value) (newId : String) : Prop where
  gH : mg "table" = some (.ref fH)
  kH : PySem.W.keepIn K (.ref fH) = true
  bH : Binds K dH ["saying", "names"] []
  gE : mg "NoName" = some (.ref C)
  err : XE.Err K C fI .name bmB newId
  own : PySem.W.exmOne K (.ref C) (.ref C) = some true
def spTold (K : PySem.W.Frag) : Sp := fun vs H Q _ => ∃ (v : V) (N : Addr) (s : Sy) (ws ys : List Str), vs = [v, .ref N] ∧ St H v s ∧ s.sz < 200 ∧ s.dep ≤ 20 ∧ Few s ∧ SqL K H N (ws.map V.str) ∧ ws.length ≤ 12 ∧ sortedS ys = true ∧ ys.Nodup ∧ (∀ z, z ∈ ys ↔ z ∈ s.names) ∧
  (lackL ws ys = none → ∀ (x : Nat) H', Same H H' → IsB x (2 ^ ws.length) (fun r => s.val (rowN ws r)) → Q (.int (x : Int)) H') ∧ (∀ z, lackL ws ys = some z → ∀ p H', Same H H' → H p = none → H' p = some (.tup [.str z]) → Q (.ref p) H')
def spAlike (K : PySem.W.Frag) : Sp := fun vs H Q _ => ∃ (v u : V) (N : Addr) (s o : Sy) (ws : List Str), vs = [v, u, .ref N] ∧ St H v s ∧ St H u o ∧ s.dep ≤ 20 ∧ o.dep ≤ 20 ∧ SqL K H N (ws.map V.str) ∧ ws.length ≤ 5 ∧ (∀ z ∈ s.names, z ∈ ws) ∧ (∀ z ∈ o.names, z ∈ ws) ∧
  ∀ b H', (b = true ↔ ∀ p, s.val p = o.val p) → Same H H' → Q (.bl b) H'
theorem takesN {X : Cx} : Takes X (fun _ _ _ _ => False) := fun _ _ x => by
  obtain ⟨_, _, _, _, _, _, _, _, _, _, _, _, _, _, _, _, z⟩ := x
  exact z.elim
theorem dp_bools {K : PySem.W.Frag} {H : Hp} : ∀ ys : List Bool, DpAll K H (ys.map V.bl) (ys.map PyData.bool)
  | [] => .nil
  | _ :: r => .cons (.bl _) (dp_bools r)
theorem plain_bools : ∀ ys : List Bool, PyData.plainAll (ys.map PyData.bool) = true
  | [] => by simp [PyData.plainAll]
  | y :: r => by
    have := plain_bools r
    simp [PyData.plainAll, PyData.plain, this]
theorem depth_bools : ∀ ys : List Bool, PyData.depthAll (ys.map PyData.bool) = 0
  | [] => by simp [PyData.depthAll]
  | y :: r => by
    have := depth_bools r
    simp [PyData.depthAll, PyData.depth, this]
theorem eqvAll_bools : ∀ xs ys : List Bool, PyData.eqvAll (xs.map PyData.bool) (ys.map PyData.bool) = decide (xs = ys)
  | [], [] => by simp [PyData.eqvAll]
  | [], _ :: _ => by simp [PyData.eqvAll]
  | _ :: _, [] => by simp [PyData.eqvAll]
  | x :: xs, y :: ys => by
    have ih := eqvAll_bools xs ys
    rw [List.map_cons, List.map_cons, PyData.eqvAll, ih, PyData.eqv]
    cases x <;> cases y <;> simp
section
variable {P : Program} {w : World} {K : PySem.W.Frag} {mg : Str → Option Value} {base : Heap} {f fR fV fT C fI : Addr} {fd dR dV dT : FuncData} {bmB : List Value} {newId : String}
theorem ok_lrow {k : Nat} (F : FnP K "_law_row" sLR f fd) (T0 : Lr mg K fR fV dR dV) : FnOk P w K mg base CX0 (k + 1) f fd ["_law_names", "_law_number"] (spLR K) := by
  refine F.ok scLR (fun vs H Q E h => ?_) (fun cdv A outer s H vs Q E hr h => ?_)
  · obtain ⟨N, ws, i, rfl, _⟩ := h
    rfl
  obtain ⟨N, ws, num, rfl, hN, hl, q⟩ := h
  refine ⟨_, PSs.nox (pss_one (ps_ret (pe_callTy (call_dictP rfl) (by rfl) T0.mdict (by decide +kernel) (pa_cons (pe_lc (own := [("_law_k", 2)]) (g := gName 2) (tt := tYes) (by rfl) scLR.nd (pi_range1 (by rfl) T0.mrange (pa_cons (pe_callB call_len_seq (by rfl) T0.mlen PySem.boot_len (pa_cons (pv 0) pa_nil)) pa_nil)) (blkOk_by (own := [("_law_k", 2)]) (N := ["_law_names", "_law_number", "_law_k"]) (sc := defScope sLR) (by decide +kernel)) (fun _ _ _ _ _ => pg_name (i := 2) scLR.nd rfl (Or.inl rfl)) (fun _ _ _ _ _ => pts_nil) (fun _ _ _ _ _ => (pe_tup (pa_cons (pe_ix (show IxR _ (rIxL K) from ix_list) (pv 0) (pv 2) (fun _ _ => rfl)) (pa_cons (pe_cmpR op_eq (pe_op op_and (pe_op op_shr (pv 1) (pv 2)) pe_int) pe_int (nomark _)) pa_nil))))) pa_nil)))), ?_⟩
  refine ⟨_, rfl, N, _, rfl, .inl hN, ?_⟩
  rw [List.length_map]
  refine ⟨_, rfl, by omega, by omega, fun D nD => lc_range (lo := 0) (fun i H' => ∃ ps : List Addr, H' D = some (.lst (ps.map V.ref)) ∧ Paired (fun p kv => H' p = some (.tup [kV kv.1, kv.2])) ps (prN (fun k => .bl (num.testBit k)) ws i) ∧ ps.length = i ∧ Same H H') ?_ ?_ ?_⟩
  · exact ⟨[], upd_same, .nil, rfl, same_new nD _⟩
  · rintro i H1 hi ⟨ps, eD, hP, hlen, s1⟩
    rw [Int.toNat_natCast] at hi
    have hz : ws[i]? = some ws[i] := List.getElem?_eq_getElem hi
    have hz2 : (ws.map V.str)[i]? = some (.str ws[i]) := by rw [List.getElem?_map, hz]; rfl
    refine ⟨rfl, ?_⟩
    refine ⟨_, rfl, _, rfl, N, _, _, _, rfl, rfl, s1.seq hN, at0_ hz2, ?_⟩
    refine ⟨_, rfl, _, rfl, _, _, rfl, rfl, by omega, _, _, rfl, rfl, rfl, ?_⟩
    refine ⟨by show 2 ≤ sizeLine; decide, fun p np => ?_⟩
    have e0 : (0 + (i : Int)).toNat = i := by omega
    have eb : decide (V.int (Builtin.bitAnd ((num : Int) / 2 ^ (0 + (i : Int)).toNat) 1) = V.int 1) = num.testBit i := by
      rw [e0, ← bit_of]
      exact decide_eq_decide.mpr ⟨fun e => by injection e, fun e => by rw [e]⟩
    rw [eb]
    have s2 := same_new np (.tup [.str ws[i], .bl (num.testBit i)])
    have ep : (upd H1 p (.tup [.str ws[i], .bl (num.testBit i)])) p = some (.tup [.str ws[i], .bl (num.testBit i)]) := upd_same
    have eD2 := s2 _ _ eD
    refine ⟨_, eD2, ?_, ps ++ [p], ?_, ?_, ?_, ?_⟩
    · rw [List.length_map]
      exact small1000 (by omega)
    · rw [upd_same, List.map_append]
      rfl
    · have tk : TupK (upd H1 p (.tup [.str ws[i], .bl (num.testBit i)])) (upd (upd H1 p (.tup [.str ws[i], .bl (num.testBit i)])) D (.lst (ps.map V.ref ++ [.ref p]))) := TupK.put eD2
      have e : prN (fun k => V.bl (num.testBit k)) ws (i + 1) = prN (fun k => V.bl (num.testBit k)) ws i ++ [((Sum.inr ws[i] : Key), V.bl (num.testBit i))] := by
        show prN (fun k => V.bl (num.testBit k)) ws i ++ (match ws[i]? with | some z => [((Sum.inr z : Key), V.bl (num.testBit i))] | none => []) = _
        rw [hz]
      rw [e]
      refine paired_app (paired_imp (fun _ _ h => tk _ _ (s2 _ _ h)) hP) (.cons (tk _ _ ep) .nil)
    · rw [List.length_append, hlen]
      rfl
    · intro c o h
      rw [upd_ne (ne_of_none h nD)]
      exact s2 _ _ (s1 _ _ h)
  · rintro H1 ⟨ps, eD, hP, hlen, s1⟩
    rw [Int.toNat_natCast] at hP
    refine ⟨D, ps, _, rfl, SqL.of eD, paired_imp (fun _ _ h => .inl (.inl h)) hP, fun p np => ?_⟩
    rw [merged_pr]
    refine q _ p _ (s1.trans (same_new np _)) (s1.free np) upd_same (fun z hz => ?_)
    rw [dcN_val _ _ _ _ (Nat.le_refl _), List.take_length]
    obtain ⟨k, e, _⟩ := lastI_some hz
    unfold rowN
    rw [e]
    rfl
theorem ok_told (F : FnP K "_law_told" sTo f fd) (GH : FnOk P w K mg base (L2.CX P w) 22 fT dT ["saying", "names"] (spTable K C)) (T0 : Tl mg K fT C fI dT bmB newId) :
    FnOk P w K mg base CX0 23 f fd ["_law_saying_here", "_law_names"] (spTold K) := by
  refine F.ok scTo (fun vs H Q E h => ?_) (fun cdv A outer s H vs Q E hr h => ?_)
  · obtain ⟨v, N, sy, ws, ys, rfl, _⟩ := h
    rfl
  obtain ⟨v, N, sy, ws, ys, rfl, hst, hsz, hdep, hfew, hN, hw, hso, hnd, hmem, q, qe⟩ := h
  refine ⟨_, PSs.nox (pss_cons (ps_set (i := 2) scTo.nd rfl (Or.inl rfl) pe_non)
 (pss_cons (ps_set (i := 3) scTo.nd rfl (Or.inl rfl) pe_non)
 (pss_cons (ps_try_keep (i := 4) (Wout := fun _ _ _ _ => False) rfl rfl scTo.nd rfl rfl ⟨rfl, by decide, .inl T0.gE⟩ takesN (fun W pn xe tk _ =>
 (pss_one (ps_set (i := 2) scTo.nd rfl (Or.inl rfl) (pe_callS GH hr (by rfl) T0.gH T0.kH T0.bH (fun σ => passAt tk σ) (pa_cons (pv 0) (pa_cons (pv 1) pa_nil)))))) (fun a pn =>
 (pss_one (ps_set (i := 3) scTo.nd rfl (Or.inl rfl) (pv 4)))))
 (pss_one (ps_ret (pe_ifExp (pt_cmpR op_isN (pv 3) pe_non (nomark _)) (pv 2) (pe_tup (pa_cons (pe_errK (pv 3)) pa_nil)))))))), ?_⟩
  refine ⟨_, rfl, _, rfl, v, N, sy, ws, ys, rfl, hst, hsz, hdep, hfew, hN, hw, hso, hnd, hmem, fun hl x H1 s1 hx => ?_, fun z hl d H1 s1 nd ed => ?_⟩
  · refine ⟨_, rfl, rfl, _, rfl, iteT ?_⟩
    exact ⟨_, rfl, q hl x H1 s1 hx⟩
  · refine ⟨true, T0.own, (fun q => nomatch q), fun _ a na => ?_⟩
    have nda : d ≠ a := fun e => by
      rw [e, na] at ed
      cases ed
    have s2 := same_new na (exk a (.ref C) (some d))
    have ea : (upd H1 a (exk a (.ref C) (some d))) a = some (exk a (.ref C) (some d)) := upd_same
    have ed2 := s2 _ _ ed
    generalize upd H1 a (exk a (.ref C) (some d)) = H2 at s2 ea ed2 ⊢
    refine ⟨_, rfl, ?_⟩
    refine ⟨_, rfl, rfl, _, rfl, iteF ?_⟩
    refine ⟨_, rfl, a, C, d, fI, .name, bmB, newId, _, rfl, rfl, T0.err, ea, ed2, by show 1 ≤ sizeLine; decide, fun p np => ?_⟩
    exact qe z hl p _ ((s1.trans s2).trans (same_new np _)) ((s1.trans s2).free np) upd_same
theorem ok_alike (F : FnP K "_law_alike" sAl f fd) (GR : FnOk P w K mg base CX0 1 fR dR ["_law_names", "_law_number"] (spLR K)) (GV : FnOk P w K mg base CX0 21 fV dV ["_law_saying_here", "_law_row_here"] (spLV 20)) (T0 : Lr mg K fR fV dR dV) :
    FnOk P w K mg base CX0 22 f fd ["_law_one", "_law_other", "_law_names"] (spAlike K) := by
  refine F.ok scAl (fun vs H Q E h => ?_) (fun cdv A outer s H vs Q E hr21 h => ?_)
  · obtain ⟨v, u, N, sy, so, ws, rfl, _⟩ := h
    rfl
  obtain ⟨v, u, N, sy, so, ws, rfl, hs, ho, hsd, hod, hN, hw, hsw, how, q⟩ := h
  have hr1 : Room 1 _ := hr21.mono (by omega)
  have hu64 := hr21.units
  refine ⟨_, PSs.nox (pss_cons (ps_setLc (i := 3) (own := [("_law_number", 4)]) (g := gName 4) (tt := tYes) (by rfl) scAl.nd rfl rfl (sw_true rfl rfl rfl (by decide +kernel)) (pi_range1 (by rfl) T0.mrange (pa_cons (pe_op op_oneShl pe_int (pe_callB call_len_seq (by rfl) T0.mlen PySem.boot_len (pa_cons (pv 2) pa_nil))) pa_nil)) (blkOk_by (own := [("_law_number", 4)]) (N := ["_law_one", "_law_other", "_law_names", "_law_rows", "_law_number", "_law_row_here"]) (sc := defScope sAl) (by decide +kernel)) (fun _ _ _ _ _ => pg_name (i := 4) scAl.nd rfl (Or.inl rfl)) (fun _ _ _ _ _ => pts_nil) (fun _ _ _ _ _ => (pe_call GR hr1 (by rfl) T0.gR T0.kR T0.bR .nil pass0 (pa_cons (pv 2) (pa_cons (pv 4) pa_nil)))))
 (pss_one (ps_ret (pe_cmpR (op_eqP hu64) (pe_lc (own := [("_law_row_here", 5)]) (g := gName 5) (tt := tYes) (by rfl) scAl.nd (pi_list (pv 3)) (blkOk_by (own := [("_law_row_here", 5)]) (N := ["_law_one", "_law_other", "_law_names", "_law_rows", "_law_number", "_law_row_here"]) (sc := defScope sAl) (by decide +kernel)) (fun _ _ _ _ _ => pg_name (i := 5) scAl.nd rfl (Or.inl rfl)) (fun _ _ _ _ _ => pts_nil) (fun _ _ _ _ _ => (pe_call GV hr21 (by rfl) T0.gV T0.kV T0.bV .nil pass0 (pa_cons (pv 0) (pa_cons (pv 5) pa_nil))))) (pe_lc (own := [("_law_row_here", 5)]) (g := gName 5) (tt := tYes) (by rfl) scAl.nd (pi_list (pv 3)) (blkOk_by (own := [("_law_row_here", 5)]) (N := ["_law_one", "_law_other", "_law_names", "_law_rows", "_law_number", "_law_row_here"]) (sc := defScope sAl) (by decide +kernel)) (fun _ _ _ _ _ => pg_name (i := 5) scAl.nd rfl (Or.inl rfl)) (fun _ _ _ _ _ => pts_nil) (fun _ _ _ _ _ => (pe_call GV hr21 (by rfl) T0.gV T0.kV T0.bV .nil pass0 (pa_cons (pv 1) (pa_cons (pv 5) pa_nil))))) (nomark _))))), ?_⟩
  obtain ⟨n, hn⟩ : ∃ n, n = ws.length := ⟨_, rfl⟩
  have hln : (ws.map V.str).length = n := by rw [List.length_map, hn]
  obtain ⟨M, hM⟩ : ∃ M, M = 2 ^ n := ⟨_, rfl⟩
  have p5 : M ≤ 32 := by rw [hM]; exact Nat.pow_le_pow_right (by decide) (by omega : n ≤ 5)
  have pM : (2 : Int) ^ n = (M : Int) := by rw [p2, hM]
  refine ⟨_, rfl, N, _, rfl, .inl hN, ?_⟩
  rw [hln]
  refine ⟨n, rfl, rfl, by omega, ?_⟩
  refine ⟨(M : Int), congrArg (fun z => [V.int z]) pM, by omega, by omega, fun D nD => lc_range (lo := 0) (fun i H' => ∃ rs : List Addr, H' D = some (.lst (rs.map V.ref)) ∧ rs.length = i ∧ (∀ j p, rs[j]? = some p → ∃ kvs, H' p = some (.dK kvs) ∧ RowIs kvs ws j) ∧ Same H H') ?_ ?_ ?_⟩
  · exact ⟨[], upd_same, rfl, fun j p e => by simp at e, same_new nD _⟩
  · rintro i H1 hi ⟨rs, eD, hlen, hrs, s1⟩
    rw [Int.toNat_natCast] at hi
    refine ⟨rfl, ?_⟩
    refine ⟨_, rfl, _, rfl, N, ws, i, by rw [Int.zero_add]; rfl, s1.seq hN, by omega, fun H2 p kvs s2 np ep ri => ?_⟩
    refine ⟨_, s2 _ _ eD, by rw [List.length_map]; exact small1000 (by omega), rs ++ [p], ?_, ?_, ?_, ?_⟩
    · rw [upd_same, List.map_append]
      rfl
    · rw [List.length_append, hlen]
      rfl
    · intro j y e
      have pD : p ≠ D := fun z => by
        rw [z, eD] at np
        cases np
      rcases Nat.lt_or_ge j rs.length with lt | ge
      · rw [List.getElem?_append_left lt] at e
        obtain ⟨kvs', e', r'⟩ := hrs j y e
        have yD : y ≠ D := fun z => by
          rw [z, eD] at e'
          cases e'
        exact ⟨kvs', by rw [upd_ne yD]; exact s2 _ _ e', r'⟩
      · rw [List.getElem?_append_right ge] at e
        have hj : j = i := by
          have := (List.getElem?_eq_some_iff.mp e).1
          simp only [List.length_singleton] at this
          omega
        subst hj
        have : p = y := by
          rw [hlen, Nat.sub_self] at e
          exact Option.some.inj e
        subst this
        exact ⟨kvs, by rw [upd_ne pD]; exact ep, ri⟩
    · intro c o h
      rw [upd_ne (ne_of_none h nD)]
      exact s2 _ _ (s1 _ _ h)
  rintro H1 ⟨rs, eD, hlen, hrs, s1⟩
  rw [Int.toNat_natCast] at hlen
  have hs1 := st_keep (TupK.of s1) hs
  have ho1 := st_keep (TupK.of s1) ho
  refine ⟨_, rfl, D, rfl, ⟨_, SqL.of eD⟩, fun D1 nD1 => lc_list (K := K) (a := D) (xs := rs.map V.ref) (fun i H' => H' D1 = some (.lst (((List.range i).map fun r => sy.val (rowN ws r)).map V.bl)) ∧ Same H1 H') ?_ ?_ ?_ ?_⟩
  · exact ⟨upd_same, same_new nD1 _⟩
  · rintro i H' _ ⟨_, s2⟩
    exact SqL.of (s2 _ _ eD)
  · rintro i x H2 hx ⟨eD1, s2⟩
    obtain ⟨p, hp, rfl⟩ : ∃ p, rs[i]? = some p ∧ x = V.ref p := by
      rw [List.getElem?_map] at hx
      cases e : rs[i]? with
      | none =>
        rw [e] at hx
        cases hx
      | some z =>
        rw [e] at hx
        exact ⟨z, rfl, (Option.some.inj hx).symm⟩
    have hi : i < M := by
      have := (List.getElem?_eq_some_iff.mp hp).1
      omega
    obtain ⟨kvs, ep, ri⟩ := hrs i p hp
    refine ⟨rfl, ?_⟩
    refine ⟨_, rfl, _, rfl, v, p, sy, kvs, rowN ws i, rfl, st_keep (TupK.of s2) hs1, hsd, s2 _ _ ep, fun z hz => ri z (hsw z hz), fun H3 s3 => ?_⟩
    refine ⟨_, s3 _ _ eD1, by rw [List.length_map, List.length_map, List.length_range]; exact small1000 (by omega), ?_, fun c o h => ?_⟩
    · rw [upd_same, List.range_succ, List.map_append, List.map_append]
      rfl
    · rw [upd_ne (ne_of_none h nD1)]
      exact s3 _ _ (s2 _ _ h)
  rintro H2 ⟨eD1, s2⟩
  rw [List.length_map, hlen] at eD1
  have eD2 := s2 _ _ eD
  have ho2 := st_keep (TupK.of s2) ho1
  refine ⟨_, rfl, D, rfl, ⟨_, SqL.of eD2⟩, fun D2 nD2 => lc_list (K := K) (a := D) (xs := rs.map V.ref) (fun i H' => H' D2 = some (.lst (((List.range i).map fun r => so.val (rowN ws r)).map V.bl)) ∧ Same H2 H') ?_ ?_ ?_ ?_⟩
  · exact ⟨upd_same, same_new nD2 _⟩
  · rintro i H' _ ⟨_, s3⟩
    exact SqL.of (s3 _ _ eD2)
  · rintro i x H3 hx ⟨eD3, s3⟩
    obtain ⟨p, hp, rfl⟩ : ∃ p, rs[i]? = some p ∧ x = V.ref p := by
      rw [List.getElem?_map] at hx
      cases e : rs[i]? with
      | none =>
        rw [e] at hx
        cases hx
      | some z =>
        rw [e] at hx
        exact ⟨z, rfl, (Option.some.inj hx).symm⟩
    have hi : i < M := by
      have := (List.getElem?_eq_some_iff.mp hp).1
      omega
    obtain ⟨kvs, ep, ri⟩ := hrs i p hp
    refine ⟨rfl, ?_⟩
    refine ⟨_, rfl, _, rfl, u, p, so, kvs, rowN ws i, rfl, st_keep (TupK.of s3) ho2, hod, s3 _ _ (s2 _ _ ep), fun z hz => ri z (how z hz), fun H4 s4 => ?_⟩
    refine ⟨_, s4 _ _ eD3, by rw [List.length_map, List.length_map, List.length_range]; exact small1000 (by omega), ?_, fun c o h => ?_⟩
    · rw [upd_same, List.range_succ, List.map_append, List.map_append]
      rfl
    · rw [upd_ne (ne_of_none h nD2)]
      exact s4 _ _ (s3 _ _ h)
  rintro H3 ⟨eD3, s3⟩
  rw [List.length_map, hlen] at eD3
  have eD13 := s3 _ _ eD1
  have ec : PyData.eqv (.list (((List.range M).map fun r => sy.val (rowN ws r)).map PyData.bool)) (.list (((List.range M).map fun r => so.val (rowN ws r)).map PyData.bool)) = decide (((List.range M).map fun r => sy.val (rowN ws r)) = ((List.range M).map fun r => so.val (rowN ws r))) := by
    rw [PyData.eqv]
    exact eqvAll_bools _ _
  have pl : ∀ bs : List Bool, PyData.plain (.list (bs.map PyData.bool)) = true := fun bs => by
    simp only [PyData.plain]
    exact plain_bools bs
  have dp : ∀ bs : List Bool, PyData.depth (.list (bs.map PyData.bool)) = 1 := fun bs => by
    simp only [PyData.depth, depth_bools]
  refine ⟨_, _, .lst (SqL.of eD13) (dp_bools _), .lst (SqL.of eD3) (dp_bools _), pl _, pl _, by rw [dp]; omega, ?_⟩
  rw [ec]
  refine q _ H3 ?_ ((s1.trans s2).trans s3)
  rw [decide_eq_true_iff, ← same_iff (ws := ws) hsw how, List.map_inj_left, ← hn, ← hM]
  exact ⟨fun h r hr => h r (List.mem_range.mpr hr), fun h r hr => h r (List.mem_range.mp hr)⟩
end
end My

set_option maxRecDepth 100000
set_option maxHeartbeats 4000000
namespace My
open PySem PySem.Spec PyProof.Rows L2
abbrev sBo : Stmt := top 22
abbrev sBr : Stmt := top 23
theorem scBo : FnScope ["_law_tape_here", "_law_saying_here", "_law_names", "_law_number", "_law_row_here", "_law_there", "_law_name"] ["_law_tape_here", "_law_saying_here", "_law_names"] (defScope sBo) := ⟨rfl, rfl, rfl, by decide +kernel, rfl, by decide +kernel, by decide +kernel⟩
theorem scBr : FnScope ["_law_tape_here", "_law_some", "_law_bare"] ["_law_tape_here"] (defScope sBr) := ⟨rfl, rfl, rfl, by decide +kernel, rfl, by decide +kernel, by decide +kernel⟩
theorem tupK_keep {T L : Addr} {H H' : Hp} {B : Int} (t : Tape H T L B) (k : Keep T H H') : TupK H H' := fun b xs h => k b _ h (fun z => by
  obtain ⟨ns, s, l, a, _⟩ := t
  rw [z, a.d] at h
  cases h)
theorem nT_of {T L b : Addr} {H : Hp} {B : Int} {xs : List V} (t : Tape H T L B) (h : H b = some (.lst xs)) : b ≠ T := fun z => by
  obtain ⟨ns, s, l, a, _⟩ := t
  rw [z, a.d] at h
  cases h
structure Bo (P : Program) (w : World) (K : PySem.W.Frag) (mg : Str → Option Value) (base : Heap) (C fD fR fV fT fG fS : Addr) (dD dR dV dT dG dS : FuncData) : Prop where
  GD : FnOk P w K mg base CX0 11 fD dD ["_law_tape_here", "_law_many"] (spDraw 11)
  GR : FnOk P w K mg base CX0 1 fR dR ["_law_names", "_law_number"] (spLR K)
  GV : FnOk P w K mg base CX0 21 fV dV ["_law_saying_here", "_law_row_here"] (spLV 20)
  GT : FnOk P w K mg base CX0 22 fT dT ["saying", "names"] (fun vs H Q _ => spTable K C vs H Q fun _ _ _ => False)
  GG : FnOk P w K mg base CX0 37 fG dG ["_law_tape_here", "_law_names", "_law_left", "_law_deep"] (spSay 26)
  GS : FnOk P w K mg base CX0 23 fS dS ["saying", "other"] spSame
  gD : mg "_law_draw" = some (.ref fD)
  kD : PySem.W.keepIn K (.ref fD) = true
  bD : Binds K dD ["_law_tape_here", "_law_many"] []
  gR : mg "_law_row" = some (.ref fR)
  kR : PySem.W.keepIn K (.ref fR) = true
  bR : Binds K dR ["_law_names", "_law_number"] []
  gV : mg "_law_value" = some (.ref fV)
  kV : PySem.W.keepIn K (.ref fV) = true
  bV : Binds K dV ["_law_saying_here", "_law_row_here"] []
  gT : mg "table" = some (.ref fT)
  kT : PySem.W.keepIn K (.ref fT) = true
  bT : Binds K dT ["saying", "names"] []
  gG : mg "_law_saying" = some (.ref fG)
  kG : PySem.W.keepIn K (.ref fG) = true
  bG : Binds K dG ["_law_tape_here", "_law_names", "_law_left", "_law_deep"] []
  gS : mg "same" = some (.ref fS)
  kS : PySem.W.keepIn K (.ref fS) = true
  bS : Binds K dS ["saying", "other"] []
  mlen : mg "len" = none
  mint : mg "int" = none
def spBo : Sp := fun vs H Q _ => ∃ (T L N : Addr) (v : V) (s : Sy) (ws : List Str) (B : Int), vs = [.ref T, v, .ref N] ∧ Tape H T L B ∧ B + 11 ≤ 1000000 ∧ St H v s ∧ s.dep ≤ 14 ∧ H N = some (.lst (ws.map V.str)) ∧ ws.length ≤ 12 ∧ (∀ z ∈ s.names, z ∈ ws) ∧
  ∀ (H' : Hp) (p : Addr) (ov : V) (o : Sy) (b : Bool), Tape H' T L (B + 11) → Keep T H H' → H' p = some (.tup [ov, .bl b]) → St H' ov o → (∀ z ∈ o.names, z ∈ ws) → o.sz ≤ s.sz + 40 → o.dep ≤ 17 → (b = true ↔ ∀ r, s.val r = o.val r) → Q (.ref p) H'
def spBr : Sp := fun vs H Q _ => ∃ (T L : Addr) (B : Int), vs = [.ref T] ∧ Tape H T L B ∧ B + 11 ≤ 1000000 ∧ ∀ H', Tape H' T L (B + 11) → Keep T H H' → Q (.bl true) H'
section
variable {P : Program} {w : World} {K : PySem.W.Frag} {mg : Str → Option Value} {base : Heap} {f C fD fR fV fT fG fS : Addr} {fd dD dR dV dT dG dS : FuncData}
theorem ok_bo (F : FnP K "_law_but_one" sBo f fd) (T0 : Bo P w K mg base C fD fR fV fT fG fS dD dR dV dT dG dS) : FnOk P w K mg base CX0 22 f fd ["_law_tape_here", "_law_saying_here", "_law_names"] spBo := by
  refine F.ok scBo (fun vs H Q E h => ?_) (fun cdv A outer s H vs Q E hr21 h => ?_)
  · obtain ⟨T, L, N, v, sy, ws, B, rfl, _⟩ := h
    rfl
  obtain ⟨T, L, N, v, sy, ws, B, rfl, t0, hB, hs, hsd, eN, hw, hsw, q⟩ := h
  have hu := hu_of hr21
  have hr1 : Room 1 _ := hr21.mono (by omega)
  have hr11 : Room 11 _ := hr21.mono (by omega)
  refine ⟨_, PSs.nox (pss_cons (ps_set (i := 3) scBo.nd rfl (Or.inl rfl) (pe_call T0.GD hr11 (by rfl) T0.gD T0.kD T0.bD .nil pass0 (pa_cons (pv 0) (pa_cons (pe_op op_oneShl pe_int (pe_callB call_len_seq (by rfl) T0.mlen PySem.boot_len (pa_cons (pv 2) pa_nil))) pa_nil))))
 (pss_cons (ps_set (i := 4) scBo.nd rfl (Or.inl rfl) (pe_call T0.GR hr1 (by rfl) T0.gR T0.kR T0.bR .nil pass0 (pa_cons (pv 2) (pa_cons (pv 3) pa_nil))))
 (pss_cons (ps_set (i := 5) scBo.nd rfl (Or.inl rfl) (pe_tup (pa_cons pe_str pa_nil)))
 (pss_cons (ps_for PassesOwn.never rfl (pi_list (pv 2)) (pg_name (i := 6) scBo.nd rfl (Or.inl rfl))
 (pss_one (ps_set (i := 5) scBo.nd rfl (Or.inl rfl) (pe_tup (pa_cons pe_str (pa_cons (pv 5) (pa_cons (pe_ifExp (pt_val (pe_dget hu (pv 4) (pv 6) (fun _ _ => rfl))) (pe_tup (pa_cons pe_str (pa_cons (pv 6) pa_nil))) (pe_tup (pa_cons pe_str (pa_cons (pe_tup (pa_cons pe_str (pa_cons (pv 6) pa_nil))) pa_nil)))) pa_nil)))))))
 (pss_one (ps_ret (pe_tup (pa_cons (pe_tup (pa_cons pe_str (pa_cons (pe_tup (pa_cons pe_str (pa_cons (pv 5) pa_nil))) (pa_cons (pv 1) pa_nil)))) (pa_cons (pe_not (pe_call T0.GV hr21 (by rfl) T0.gV T0.kV T0.bV .nil pass0 (pa_cons (pv 1) (pa_cons (pv 4) pa_nil)))) pa_nil))))))))), ?_⟩
  obtain ⟨n, hn⟩ : ∃ n, n = ws.length := ⟨_, rfl⟩
  have hln : (ws.map V.str).length = n := by rw [List.length_map, hn]
  have p12 : 2 ^ n ≤ 4096 := pow_le12 (by omega)
  refine ⟨_, rfl, _, rfl, N, _, rfl, .inl (SqL.of eN), ?_⟩
  rw [hln]
  refine ⟨n, rfl, rfl, by omega, ?_⟩
  obtain ⟨M, hM⟩ : ∃ M, M = 2 ^ n := ⟨_, rfl⟩
  have pM : (2 : Int) ^ n = (M : Int) := by rw [p2, hM]
  have pM1 : 1 ≤ M := by rw [hM]; exact Nat.one_le_two_pow
  have pM2 : M ≤ 4096 := by rw [hM]; exact p12
  refine ⟨T, L, (M : Int), B, congrArg (fun z => [V.ref T, V.int z]) pM, by omega, ?_, by omega, t0, fun H1 r r0 r1 t1 k1 => ?_⟩
  · rw [Int.natAbs_natCast]
    exact Nat.lt_of_le_of_lt pM2 (by decide)
  obtain ⟨num, rfl⟩ : ∃ num : Nat, r = (num : Int) := ⟨r.toNat, by omega⟩
  have eN1 := k1 _ _ eN (nT_of t0 eN)
  have hs1 := st_keep (tupK_keep t0 k1) hs
  refine ⟨_, rfl, _, rfl, N, ws, num, rfl, SqL.of eN1, hw, fun H2 R kvs s2 nR eR hR => ?_⟩
  have eN2 := s2 _ _ eN1
  have hs2 := st_keep (TupK.of s2) hs1
  have t2 := t1.same s2
  refine ⟨by show 1 ≤ sizeLine; decide, fun p0 np0 => ?_⟩
  have s3 := same_new np0 (.tup [.str "yes"])
  have e0 : (upd H2 p0 (.tup [.str "yes"])) p0 = some (.tup [.str "yes"]) := upd_same
  have eN3 := s3 _ _ eN2
  have eR3 := s3 _ _ eR
  generalize upd H2 p0 (.tup [.str "yes"]) = H3 at s3 e0 eN3 eR3 ⊢
  have s23 := s2.trans s3
  refine ⟨_, rfl, N, rfl, ⟨_, SqL.of eN3⟩, for_it (walk_list (K := K) (a := N) (xs := ws.map V.str)) (fun i σ H' => ∃ (a : Addr) (d : Sy) (kk : Option V), σ = [some (.ref T), some v, some (.ref N), some (.int (num : Int)), some (.ref R), some (.ref a), kk] ∧ St H' (.ref a) d ∧ d.sz ≤ 1 + 3 * i ∧ d.dep ≤ i + 2 ∧ (∀ z ∈ d.names, z ∈ ws) ∧ (∀ r, d.val r = true ↔ ∀ z ∈ ws.take i, r z = rowN ws num z) ∧ Same H3 H') ?_ ?_ ?_ ?_⟩
  · exact ⟨p0, .yes, _, rfl, .yes e0, by show 1 ≤ 1 + 3 * 0; decide, by show 1 ≤ 0 + 2; decide, fun z hz => (by cases hz), fun r => ⟨fun _ z hz => (by cases hz), fun _ => rfl⟩, Same.refl _⟩
  · rintro i σ H' _ ⟨_, _, _, _, _, _, _, _, _, s4⟩
    exact SqL.of (s4 _ _ eN3)
  · rintro i x σ Hx H4 hi ⟨a, d, kk, rfl, hd, hz1, hd1, hn1, hv1, s4⟩ ⟨rfl, hx⟩
    obtain ⟨z, hz, rfl⟩ : ∃ z, ws[i]? = some z ∧ x = V.str z := by
      rw [List.getElem?_map] at hx
      cases e : ws[i]? with
      | none =>
        rw [e] at hx
        cases hx
      | some z =>
        rw [e] at hx
        exact ⟨z, rfl, (Option.some.inj hx).symm⟩
    have hzw := List.mem_of_getElem? hz
    have hg := DGet.k (k := (Sum.inr z : Key)) (s4 _ _ eR3)
    rw [hR z hzw] at hg
    have ht : ∀ (r : Str → Bool), (∀ y ∈ ws.take (i + 1), r y = rowN ws num y) ↔ (∀ y ∈ ws.take i, r y = rowN ws num y) ∧ r z = rowN ws num z := fun r => by
      rw [List.take_add_one, hz]
      constructor
      · intro h
        exact ⟨fun y hy => h y (List.mem_append_left _ hy), h z (List.mem_append_right _ (List.mem_singleton_self z))⟩
      · rintro ⟨h1, h2⟩ y hy
        rcases List.mem_append.mp hy with hy | hy
        · exact h1 y hy
        · rw [List.mem_singleton.mp hy]
          exact h2
    refine ⟨_, rfl, _, rfl, _, rfl, R, _, rfl, hg, ?_⟩
    refine ⟨_, rfl, ?_⟩
    cases hb : rowN ws num z with
    | true =>
      refine iteT ?_
      refine ⟨_, rfl, by show 2 ≤ sizeLine; decide, fun p1 n1 => ?_⟩
      have s5 := same_new n1 (.tup [.str "name", .str z])
      have e1 : (upd H4 p1 (.tup [.str "name", .str z])) p1 = some (.tup [.str "name", .str z]) := upd_same
      have hd5 := st_keep (TupK.of s5) hd
      have s35 := s4.trans s5
      generalize upd H4 p1 (.tup [.str "name", .str z]) = H5 at s5 e1 hd5 s35 ⊢
      refine ⟨by show 3 ≤ sizeLine; decide, fun p2 n2 => ?_⟩
      have s6 := same_new n2 (.tup [.str "and", .ref a, .ref p1])
      refine ⟨p2, .bi .an d (.nm z), _, rfl, .bi .an upd_same (st_keep (TupK.of s6) hd5) (.nm z (s6 _ _ e1)), ?_, ?_, ?_, ?_, s35.trans s6⟩
      · show d.sz + 1 + 1 ≤ _
        omega
      · show max d.dep 1 + 1 ≤ _
        omega
      · intro y hy
        rcases List.mem_append.mp hy with hy | hy
        · exact hn1 y hy
        · rw [List.mem_singleton.mp hy]
          exact hzw
      · intro r
        show (d.val r && r z) = true ↔ _
        rw [Bool.and_eq_true, hv1 r, ht r, hb]
    | false =>
      refine iteF ?_
      refine ⟨_, rfl, by show 2 ≤ sizeLine; decide, fun p1 n1 => ?_⟩
      have s5 := same_new n1 (.tup [.str "name", .str z])
      have e1 : (upd H4 p1 (.tup [.str "name", .str z])) p1 = some (.tup [.str "name", .str z]) := upd_same
      have hd5 := st_keep (TupK.of s5) hd
      have s35 := s4.trans s5
      generalize upd H4 p1 (.tup [.str "name", .str z]) = H5 at s5 e1 hd5 s35 ⊢
      refine ⟨by show 2 ≤ sizeLine; decide, fun p3 n3 => ?_⟩
      have s7 := same_new n3 (.tup [.str "not", .ref p1])
      have e3 : (upd H5 p3 (.tup [.str "not", .ref p1])) p3 = some (.tup [.str "not", .ref p1]) := upd_same
      have e17 := s7 _ _ e1
      have hd7 := st_keep (TupK.of s7) hd5
      have s37 := s35.trans s7
      generalize upd H5 p3 (.tup [.str "not", .ref p1]) = H7 at s7 e3 e17 hd7 s37 ⊢
      refine ⟨by show 3 ≤ sizeLine; decide, fun p2 n2 => ?_⟩
      have s6 := same_new n2 (.tup [.str "and", .ref a, .ref p3])
      refine ⟨p2, .bi .an d (.nt (.nm z)), _, rfl, .bi .an upd_same (st_keep (TupK.of s6) hd7) (.nt (s6 _ _ e3) (.nm z (s6 _ _ e17))), ?_, ?_, ?_, ?_, s37.trans s6⟩
      · show d.sz + (1 + 1) + 1 ≤ _
        omega
      · show max d.dep (1 + 1) + 1 ≤ _
        omega
      · intro y hy
        rcases List.mem_append.mp hy with hy | hy
        · exact hn1 y hy
        · rw [List.mem_singleton.mp hy]
          exact hzw
      · intro r
        show (d.val r && !r z) = true ↔ _
        rw [Bool.and_eq_true, hv1 r, ht r, hb, Bool.not_eq_true']
  · rintro σ H4 ⟨a, d, kk, rfl, hd, hz1, hd1, hn1, hv1, s4⟩
    rw [List.length_map] at hz1 hd1
    rw [List.length_map, List.take_length] at hv1
    have hs4 := st_keep (TupK.of (s3.trans s4)) hs2
    have eR4 := s4 _ _ eR3
    have t4 := t2.same (s3.trans s4)
    have k4 : Keep T H H4 := k1.trans (Keep.of (s23.trans s4))
    refine ⟨_, rfl, by show 2 ≤ sizeLine; decide, fun p5 n5 => ?_⟩
    have s5 := same_new n5 (.tup [.str "not", .ref a])
    have e5 : (upd H4 p5 (.tup [.str "not", .ref a])) p5 = some (.tup [.str "not", .ref a]) := upd_same
    have hd5 := st_keep (TupK.of s5) hd
    have hs5 := st_keep (TupK.of s5) hs4
    have eR5 := s5 _ _ eR4
    have t5 := t4.same s5
    have k5 := k4.trans (Keep.of s5)
    generalize upd H4 p5 (.tup [.str "not", .ref a]) = H5 at s5 e5 hd5 hs5 eR5 t5 k5 ⊢
    refine ⟨_, rfl, by show 3 ≤ sizeLine; decide, fun p6 n6 => ?_⟩
    have s6 := same_new n6 (.tup [.str "and", .ref p5, v])
    have e6 : (upd H5 p6 (.tup [.str "and", .ref p5, v])) p6 = some (.tup [.str "and", .ref p5, v]) := upd_same
    have hd6 := st_keep (TupK.of s6) hd5
    have hs6 := st_keep (TupK.of s6) hs5
    have e56 := s6 _ _ e5
    have eR6 := s6 _ _ eR5
    have t6 := t5.same s6
    have k6 := k5.trans (Keep.of s6)
    generalize upd H5 p6 (.tup [.str "and", .ref p5, v]) = H6 at s6 e6 hd6 hs6 e56 eR6 t6 k6 ⊢
    have ho6 : St H6 (.ref p6) (.bi .an (.nt d) sy) := .bi .an e6 (.nt e56 hd6) hs6
    refine ⟨_, rfl, _, rfl, v, R, sy, kvs, rowN ws num, rfl, hs6, by omega, eR6, fun z hz => hR z (hsw z hz), fun H7 s7 => ?_⟩
    refine ⟨_, rfl, ?_⟩
    refine ⟨by show 2 ≤ sizeLine; decide, fun p8 n8 => ?_⟩
    have s8 := same_new n8 (.tup [.ref p6, .bl (!sy.val (rowN ws num))])
    refine q _ p8 (.ref p6) (.bi .an (.nt d) sy) _ ((t6.same s7).same s8) (k6.trans (Keep.of (s7.trans s8))) upd_same (st_keep (TupK.of (s7.trans s8)) ho6) ?_ ?_ ?_ ?_
    · intro z hz
      rcases List.mem_append.mp hz with hz | hz
      · exact hn1 z hz
      · exact hsw z hz
    · show d.sz + 1 + sy.sz + 1 ≤ _
      omega
    · show max (d.dep + 1) sy.dep + 1 ≤ _
      omega
    · rw [Bool.not_eq_true']
      constructor
      · intro h r
        show sy.val r = (!d.val r && sy.val r)
        cases e : d.val r with
        | false => rfl
        | true =>
          have hr := (hv1 r).mp e
          rw [val_congr (s := sy) (p := r) (q := rowN ws num) (fun z hz => hr z (hsw z hz)), h]
          rfl
      · intro h
        have h1 := h (rowN ws num)
        have h2 : d.val (rowN ws num) = true := (hv1 _).mpr fun _ _ => rfl
        have h3 : sy.val (rowN ws num) = (!d.val (rowN ws num) && sy.val (rowN ws num)) := h1
        rw [h2] at h3
        exact h3
theorem ok_br (F : FnP K "_law_bare_right" sBr f fd) (T0 : Bo P w K mg base C fD fR fV fT fG fS dD dR dV dT dG dS) : FnOk P w K mg base CX0 23 f fd ["_law_tape_here"] spBr := by
  refine F.ok scBr (fun vs H Q E h => ?_) (fun cdv A outer s H vs Q E hr22 h => ?_)
  · obtain ⟨T, L, B, rfl, _⟩ := h
    rfl
  obtain ⟨T, L, B, rfl, t0, hB, q⟩ := h
  have hu := hu_of hr22
  have hr21 : Room 21 _ := hr22.mono (by omega)
  have hr11 : Room 11 _ := hr22.mono (by omega)
  refine ⟨_, PSs.nox (pss_cons (ps_set (i := 1) scBr.nd rfl (Or.inl rfl) (pe_lst (pa_cons (pe_tup (pa_cons pe_str (pa_cons (pe_tup (pa_cons pe_str pa_nil)) pa_nil))) (pa_cons (pe_tup (pa_cons pe_str (pa_cons (pe_tup (pa_cons pe_str pa_nil)) (pa_cons (pe_tup (pa_cons pe_str pa_nil)) pa_nil)))) (pa_cons (pe_tup (pa_cons pe_str pa_nil)) (pa_cons (pe_tup (pa_cons pe_str (pa_cons (pe_tup (pa_cons pe_str pa_nil)) (pa_cons (pe_tup (pa_cons pe_str pa_nil)) pa_nil)))) (pa_cons (pe_tup (pa_cons pe_str pa_nil)) pa_nil)))))))
 (pss_cons (ps_set (i := 2) scBr.nd rfl (Or.inl rfl) (pe_ix ix_list (pv 1) (pe_call T0.GD hr11 (by rfl) T0.gD T0.kD T0.bD .nil pass0 (pa_cons (pv 0) (pa_cons pe_int pa_nil))) (fun _ _ => rfl)))
 (pss_one (ps_ret (pe_cmpR op_eq (pe_call T0.GT hr22 (by rfl) T0.gT T0.kT T0.bT .nil pass0 (pa_cons (pv 2) (pa_cons (pe_lst pa_nil) pa_nil))) (pe_callTy call_int1 (by rfl) T0.mint (by decide +kernel) (pa_cons (pe_call T0.GV hr21 (by rfl) T0.gV T0.kV T0.bV .nil pass0 (pa_cons (pv 2) (pa_cons pe_dnewK pa_nil))) pa_nil)) (nomark _)))))), ?_⟩
  have sm0 : Same H H := Same.refl _
  refine ⟨by show 1 ≤ sizeLine; decide, fun y1 nny1 => ?_⟩
  have st0 := same_new nny1 (.tup [.str "yes"])
  have eu0 : (upd H y1 (.tup [.str "yes"])) y1 = some (.tup [.str "yes"]) := upd_same
  have sm1 := sm0.trans st0
  generalize upd H y1 (.tup [.str "yes"]) = Ha0 at st0 eu0  sm1 ⊢
  have hy1 : St Ha0 (.ref y1) (.yes) := .yes eu0
  refine ⟨by show 2 ≤ sizeLine; decide, fun n1 nnn1 => ?_⟩
  have st1 := same_new nnn1 (.tup [.str "not", .ref y1])
  have eu1 : (upd Ha0 n1 (.tup [.str "not", .ref y1])) n1 = some (.tup [.str "not", .ref y1]) := upd_same
  have hy1 := st_keep (TupK.of st1) hy1
  have sm2 := sm1.trans st1
  generalize upd Ha0 n1 (.tup [.str "not", .ref y1]) = Ha1 at st1 eu1 hy1 sm2 ⊢
  have hn1 : St Ha1 (.ref n1) (.nt .yes) := .nt eu1 hy1
  refine ⟨by show 1 ≤ sizeLine; decide, fun o1 nno1 => ?_⟩
  have st2 := same_new nno1 (.tup [.str "no"])
  have eu2 : (upd Ha1 o1 (.tup [.str "no"])) o1 = some (.tup [.str "no"]) := upd_same
  have hy1 := st_keep (TupK.of st2) hy1
  have hn1 := st_keep (TupK.of st2) hn1
  have sm3 := sm2.trans st2
  generalize upd Ha1 o1 (.tup [.str "no"]) = Ha2 at st2 eu2 hy1 hn1 sm3 ⊢
  have ho1 : St Ha2 (.ref o1) (.no) := .no eu2
  refine ⟨by show 1 ≤ sizeLine; decide, fun o2 nno2 => ?_⟩
  have st3 := same_new nno2 (.tup [.str "no"])
  have eu3 : (upd Ha2 o2 (.tup [.str "no"])) o2 = some (.tup [.str "no"]) := upd_same
  have hy1 := st_keep (TupK.of st3) hy1
  have hn1 := st_keep (TupK.of st3) hn1
  have ho1 := st_keep (TupK.of st3) ho1
  have sm4 := sm3.trans st3
  generalize upd Ha2 o2 (.tup [.str "no"]) = Ha3 at st3 eu3 hy1 hn1 ho1 sm4 ⊢
  have ho2 : St Ha3 (.ref o2) (.no) := .no eu3
  refine ⟨by show 3 ≤ sizeLine; decide, fun c1 nnc1 => ?_⟩
  have st4 := same_new nnc1 (.tup [.str "same", .ref o1, .ref o2])
  have eu4 : (upd Ha3 c1 (.tup [.str "same", .ref o1, .ref o2])) c1 = some (.tup [.str "same", .ref o1, .ref o2]) := upd_same
  have hy1 := st_keep (TupK.of st4) hy1
  have hn1 := st_keep (TupK.of st4) hn1
  have ho1 := st_keep (TupK.of st4) ho1
  have ho2 := st_keep (TupK.of st4) ho2
  have sm5 := sm4.trans st4
  generalize upd Ha3 c1 (.tup [.str "same", .ref o1, .ref o2]) = Ha4 at st4 eu4 hy1 hn1 ho1 ho2 sm5 ⊢
  have hc1 : St Ha4 (.ref c1) (.bi .sm .no .no) := .bi .sm eu4 ho1 ho2
  refine ⟨by show 1 ≤ sizeLine; decide, fun y2 nny2 => ?_⟩
  have st5 := same_new nny2 (.tup [.str "yes"])
  have eu5 : (upd Ha4 y2 (.tup [.str "yes"])) y2 = some (.tup [.str "yes"]) := upd_same
  have hy1 := st_keep (TupK.of st5) hy1
  have hn1 := st_keep (TupK.of st5) hn1
  have ho1 := st_keep (TupK.of st5) ho1
  have ho2 := st_keep (TupK.of st5) ho2
  have hc1 := st_keep (TupK.of st5) hc1
  have sm6 := sm5.trans st5
  generalize upd Ha4 y2 (.tup [.str "yes"]) = Ha5 at st5 eu5 hy1 hn1 ho1 ho2 hc1 sm6 ⊢
  have hy2 : St Ha5 (.ref y2) (.yes) := .yes eu5
  refine ⟨by show 1 ≤ sizeLine; decide, fun y3 nny3 => ?_⟩
  have st6 := same_new nny3 (.tup [.str "yes"])
  have eu6 : (upd Ha5 y3 (.tup [.str "yes"])) y3 = some (.tup [.str "yes"]) := upd_same
  have hy1 := st_keep (TupK.of st6) hy1
  have hn1 := st_keep (TupK.of st6) hn1
  have ho1 := st_keep (TupK.of st6) ho1
  have ho2 := st_keep (TupK.of st6) ho2
  have hc1 := st_keep (TupK.of st6) hc1
  have hy2 := st_keep (TupK.of st6) hy2
  have sm7 := sm6.trans st6
  generalize upd Ha5 y3 (.tup [.str "yes"]) = Ha6 at st6 eu6 hy1 hn1 ho1 ho2 hc1 hy2 sm7 ⊢
  have hy3 : St Ha6 (.ref y3) (.yes) := .yes eu6
  refine ⟨by show 1 ≤ sizeLine; decide, fun o3 nno3 => ?_⟩
  have st7 := same_new nno3 (.tup [.str "no"])
  have eu7 : (upd Ha6 o3 (.tup [.str "no"])) o3 = some (.tup [.str "no"]) := upd_same
  have hy1 := st_keep (TupK.of st7) hy1
  have hn1 := st_keep (TupK.of st7) hn1
  have ho1 := st_keep (TupK.of st7) ho1
  have ho2 := st_keep (TupK.of st7) ho2
  have hc1 := st_keep (TupK.of st7) hc1
  have hy2 := st_keep (TupK.of st7) hy2
  have hy3 := st_keep (TupK.of st7) hy3
  have sm8 := sm7.trans st7
  generalize upd Ha6 o3 (.tup [.str "no"]) = Ha7 at st7 eu7 hy1 hn1 ho1 ho2 hc1 hy2 hy3 sm8 ⊢
  have ho3 : St Ha7 (.ref o3) (.no) := .no eu7
  refine ⟨by show 3 ≤ sizeLine; decide, fun c2 nnc2 => ?_⟩
  have st8 := same_new nnc2 (.tup [.str "if", .ref y3, .ref o3])
  have eu8 : (upd Ha7 c2 (.tup [.str "if", .ref y3, .ref o3])) c2 = some (.tup [.str "if", .ref y3, .ref o3]) := upd_same
  have hy1 := st_keep (TupK.of st8) hy1
  have hn1 := st_keep (TupK.of st8) hn1
  have ho1 := st_keep (TupK.of st8) ho1
  have ho2 := st_keep (TupK.of st8) ho2
  have hc1 := st_keep (TupK.of st8) hc1
  have hy2 := st_keep (TupK.of st8) hy2
  have hy3 := st_keep (TupK.of st8) hy3
  have ho3 := st_keep (TupK.of st8) ho3
  have sm9 := sm8.trans st8
  generalize upd Ha7 c2 (.tup [.str "if", .ref y3, .ref o3]) = Ha8 at st8 eu8 hy1 hn1 ho1 ho2 hc1 hy2 hy3 ho3 sm9 ⊢
  have hc2 : St Ha8 (.ref c2) (.bi .iff .yes .no) := .bi .iff eu8 hy3 ho3
  refine ⟨by show 1 ≤ sizeLine; decide, fun o4 nno4 => ?_⟩
  have st9 := same_new nno4 (.tup [.str "no"])
  have eu9 : (upd Ha8 o4 (.tup [.str "no"])) o4 = some (.tup [.str "no"]) := upd_same
  have hy1 := st_keep (TupK.of st9) hy1
  have hn1 := st_keep (TupK.of st9) hn1
  have ho1 := st_keep (TupK.of st9) ho1
  have ho2 := st_keep (TupK.of st9) ho2
  have hc1 := st_keep (TupK.of st9) hc1
  have hy2 := st_keep (TupK.of st9) hy2
  have hy3 := st_keep (TupK.of st9) hy3
  have ho3 := st_keep (TupK.of st9) ho3
  have hc2 := st_keep (TupK.of st9) hc2
  have sm10 := sm9.trans st9
  generalize upd Ha8 o4 (.tup [.str "no"]) = Ha9 at st9 eu9 hy1 hn1 ho1 ho2 hc1 hy2 hy3 ho3 hc2 sm10 ⊢
  have ho4 : St Ha9 (.ref o4) (.no) := .no eu9
  refine ⟨by show 5 ≤ sizeLine; decide, fun pl npl => ?_⟩
  have sl := same_new npl (.lst [.ref n1, .ref c1, .ref y2, .ref c2, .ref o4])
  have el : (upd Ha9 pl (.lst [.ref n1, .ref c1, .ref y2, .ref c2, .ref o4])) pl = some (.lst [.ref n1, .ref c1, .ref y2, .ref c2, .ref o4]) := upd_same
  have smL := sm10.trans sl
  have hn1 := st_keep (TupK.of sl) hn1
  have hc1 := st_keep (TupK.of sl) hc1
  have hy2 := st_keep (TupK.of sl) hy2
  have hc2 := st_keep (TupK.of sl) hc2
  have ho4 := st_keep (TupK.of sl) ho4
  generalize upd Ha9 pl (.lst [.ref n1, .ref c1, .ref y2, .ref c2, .ref o4]) = H1 at sl el smL hn1 hc1 hy2 hc2 ho4 ⊢
  have t1 := t0.same smL
  refine ⟨_, rfl, _, rfl, T, L, 5, B, rfl, by decide, by decide, by omega, t1, fun H2 r r0 r1 t2 k2 => ?_⟩
  have el2 := k2 _ _ el (nT_of t1 el)
  have tk := tupK_keep t1 k2
  obtain ⟨x, d, hx, hd, hnm, hdp, hdz⟩ : ∃ x d, atI [V.ref n1, .ref c1, .ref y2, .ref c2, .ref o4] r = some x ∧ St H2 x d ∧ d.names = [] ∧ d.dep ≤ 3 ∧ d.sz < 200 := by
    have c5 : r = 0 ∨ r = 1 ∨ r = 2 ∨ r = 3 ∨ r = 4 := by omega
    rcases c5 with rfl | rfl | rfl | rfl | rfl
    · exact ⟨_, _, rfl, st_keep tk hn1, rfl, by decide, by decide⟩
    · exact ⟨_, _, rfl, st_keep tk hc1, rfl, by decide, by decide⟩
    · exact ⟨_, _, rfl, st_keep tk hy2, rfl, by decide, by decide⟩
    · exact ⟨_, _, rfl, st_keep tk hc2, rfl, by decide, by decide⟩
    · exact ⟨_, _, rfl, st_keep tk ho4, rfl, by decide, by decide⟩
  refine ⟨pl, _, _, _, rfl, rfl, SqL.of el2, hx, ?_⟩
  have k02 : Keep T H H2 := (Keep.of smL).trans k2
  refine ⟨_, rfl, Nat.zero_le _, fun N nN => ?_⟩
  have s3 := same_new nN (.lst [])
  have e3 : (upd H2 N (.lst [])) N = some (.lst []) := upd_same
  have hd3 := st_keep (TupK.of s3) hd
  have t3 := t2.same s3
  have k03 := k02.trans (Keep.of s3)
  generalize upd H2 N (.lst []) = H3 at s3 e3 hd3 t3 k03 ⊢
  refine ⟨x, N, d, [], [], rfl, hd3, hdz, by omega, ⟨[], Nat.zero_le _, (fun z hz => (by rw [hnm] at hz; exact hz))⟩, SqL.of e3, Nat.zero_le _, rfl, List.nodup_nil, (fun z => (by rw [hnm])), fun _ n H4 s4 hn => ?_, fun z hz => by cases hz⟩
  have hd4 := st_keep (TupK.of s4) hd3
  refine ⟨_, rfl, fun D nD => ?_⟩
  have s5 := same_new nD (.dK [])
  refine ⟨x, D, d, [], rowN [] 0, rfl, st_keep (TupK.of s5) hd4, by omega, upd_same, (fun z hz => (by rw [hnm] at hz; cases hz)), fun H6 s6 => ?_⟩
  refine .inr ⟨_, rfl, ?_⟩
  refine ⟨rfl, ?_⟩
  have hv := hn 0
  have hlt := hn.lt
  have e : decide (V.int (n : Int) = V.int (if d.val (rowN [] 0) = true then 1 else 0)) = true := by
    rw [decide_eq_true_iff]
    rw [Nat.testBit_zero] at hv
    have hv : decide (n % 2 = 1) = (decide (0 < 2 ^ 0) && d.val (rowN [] 0)) := hv
    have h2 : n < 2 := hlt
    cases hb : d.val (rowN [] 0) with
    | true =>
      rw [hb] at hv
      have : n % 2 = 1 := by simpa using hv
      have : n = 1 := by omega
      rw [this]; rfl
    | false =>
      rw [hb] at hv
      have : ¬ (n % 2 = 1) := by simpa using hv
      have : n = 0 := by omega
      rw [this]; rfl
  rw [e]
  have s46 := (s4.trans s5).trans s6
  exact q H6 (t3.same s46) (k03.trans (Keep.of s46))
end
end My

set_option maxRecDepth 100000
set_option maxHeartbeats 4000000
namespace My
open PySem PySem.Spec PyProof.Rows L2
abbrev sSr : Stmt := top 24
theorem scSr : FnScope ["_law_tape_here", "_law_saying_here", "_law_names", "_law_other", "_law_alike_here", "_law_more", "_law_one", "_law_answer"] ["_law_tape_here", "_law_saying_here", "_law_names"] (defScope sSr) := ⟨rfl, rfl, rfl, by decide +kernel, rfl, by decide +kernel, by decide +kernel⟩
structure Sr (P : Program) (w : World) (K : PySem.W.Frag) (mg : Str → Option Value) (base : Heap) (fD fB fS fG fA : Addr) (dD dB dS dG dA : FuncData) : Prop where
  GD : FnOk P w K mg base CX0 11 fD dD ["_law_tape_here", "_law_many"] (spDraw 11)
  GB : FnOk P w K mg base CX0 22 fB dB ["_law_tape_here", "_law_saying_here", "_law_names"] spBo
  GS : FnOk P w K mg base CX0 23 fS dS ["saying", "other"] spSame
  GG : FnOk P w K mg base CX0 37 fG dG ["_law_tape_here", "_law_names", "_law_left", "_law_deep"] (spSay 26)
  GA : FnOk P w K mg base CX0 22 fA dA ["_law_one", "_law_other", "_law_names"] (spAlike K)
  gD : mg "_law_draw" = some (.ref fD)
  kD : PySem.W.keepIn K (.ref fD) = true
  bD : Binds K dD ["_law_tape_here", "_law_many"] []
  gB : mg "_law_but_one" = some (.ref fB)
  kB : PySem.W.keepIn K (.ref fB) = true
  bB : Binds K dB ["_law_tape_here", "_law_saying_here", "_law_names"] []
  gS : mg "same" = some (.ref fS)
  kS : PySem.W.keepIn K (.ref fS) = true
  bS : Binds K dS ["saying", "other"] []
  gG : mg "_law_saying" = some (.ref fG)
  kG : PySem.W.keepIn K (.ref fG) = true
  bG : Binds K dG ["_law_tape_here", "_law_names", "_law_left", "_law_deep"] []
  gA : mg "_law_alike" = some (.ref fA)
  kA : PySem.W.keepIn K (.ref fA) = true
  bA : Binds K dA ["_law_one", "_law_other", "_law_names"] []
  misinstance : mg "isinstance" = none
  mbool : mg "bool" = none
theorem cut_to (ws : List Str) (n : Nat) : cutV (ws.map V.str) none (some (n : Int)) = (ws.take n).map V.str := by
  unfold cutV
  rw [show HT.sIx (ws.map V.str).length (ws.map V.str).length (some (n : Int)) = min n (ws.map V.str).length from HT.sIx_nat _ _ n, HT.sIx_none]
  rw [List.length_map, List.drop_zero, Nat.sub_zero, ← List.map_take]
  congr 1
  by_cases h : n ≤ ws.length
  · rw [Nat.min_eq_left h]
  · rw [Nat.min_eq_right (by omega), List.take_of_length_le (Nat.le_refl _), List.take_of_length_le (by omega)]
theorem iteF' {c : Bool} {p q : Prop} (h : c = false) (x : q) : if c = true then p else q := by rw [if_neg (by rw [h]; decide)]; exact x
def spSr : Sp := fun vs H Q _ => ∃ (T L N : Addr) (v : V) (s : Sy) (ws : List Str) (B : Int), vs = [.ref T, v, .ref N] ∧ Tape H T L B ∧ B + 1000 ≤ 1000000 ∧ St H v s ∧ s.sz ≤ 60 ∧ s.dep ≤ 10 ∧ H N = some (.lst (ws.map V.str)) ∧ ws.length = 12 ∧ (∀ z ∈ ws, z.length ≤ 8) ∧ (∀ z ∈ s.names, z ∈ ws.take 5) ∧
  ∀ H', Tape H' T L (B + 1000) → Keep T H H' → Q (.bl true) H'
section
variable {P : Program} {w : World} {K : PySem.W.Frag} {mg : Str → Option Value} {base : Heap} {f fD fB fS fG fA : Addr} {fd dD dB dS dG dA : FuncData}
theorem ok_sr (F : FnP K "_law_sames_right" sSr f fd) (T0 : Sr P w K mg base fD fB fS fG fA dD dB dS dG dA) : FnOk P w K mg base CX0 38 f fd ["_law_tape_here", "_law_saying_here", "_law_names"] spSr := by
  refine F.ok scSr (fun vs H Q E h => ?_) (fun cdv A outer s H vs Q E hr h => ?_)
  · obtain ⟨T, L, N, v, sy, ws, B, rfl, _⟩ := h
    rfl
  obtain ⟨T, L, N, v, sy, ws, B, rfl, t0, hB, hs, hsz, hsd, eN, hl, h8, hsw, q⟩ := h
  have hu := hu_of hr
  have hr37 : Room 37 _ := hr
  have hr23 : Room 23 _ := hr.mono (by omega)
  have hr22 : Room 22 _ := hr.mono (by omega)
  have hr11 : Room 11 _ := hr.mono (by omega)
  refine ⟨_, PSs.nox (pss_cons (ps_asg (pe_call T0.GB hr22 (by rfl) T0.gB T0.kB T0.bB .nil pass0 (pa_cons (pv 0) (pa_cons (pv 1) (pa_cons (pe_slice sl_list (pv 2) po_none (po_some (pe_op op_add pe_int (pe_call T0.GD hr11 (by rfl) T0.gD T0.kD T0.bD .nil pass0 (pa_cons (pv 0) (pa_cons pe_int pa_nil)))))) pa_nil)))) (pg_tup (by rfl) (pgs_cons (pg_name (i := 3) scSr.nd rfl (Or.inl rfl)) (pgs_cons (pg_name (i := 4) scSr.nd rfl (Or.inl rfl)) pgs_nil))))
 (pss_cons (ps_if (PW.pt (pw_or (pt_cmpR op_ne (pe_call T0.GS hr23 (by rfl) T0.gS T0.kS T0.bS .nil pass0 (pa_cons (pv 1) (pa_cons (pv 3) pa_nil))) (pv 4) (nomark _)) (pw_or1 (pt_cmpR op_ne (pe_call T0.GS hr23 (by rfl) T0.gS T0.kS T0.bS .nil pass0 (pa_cons (pv 3) (pa_cons (pv 1) pa_nil))) (pv 4) (nomark _)))))
 (pss_one (ps_ret pe_bl)) pss_nil)
 (pss_cons (ps_set (i := 3) scSr.nd rfl (Or.inl rfl) (pe_call T0.GG hr37 (by rfl) T0.gG T0.kG T0.bG .nil pass0 (pa_cons (pv 0) (pa_cons (pe_slice sl_list (pv 2) po_none (po_some pe_int)) (pa_cons (pe_lst (pa_cons pe_int pa_nil)) (pa_cons pe_int pa_nil))))))
 (pss_cons (ps_set (i := 5) scSr.nd rfl (Or.inl rfl) (pe_lst (pa_cons (pv 3) (pa_cons (pe_tup (pa_cons pe_str (pa_cons (pe_tup (pa_cons pe_str (pa_cons (pv 1) pa_nil))) pa_nil))) (pa_cons (pe_tup (pa_cons pe_str (pa_cons (pe_tup (pa_cons pe_str (pa_cons (pv 1) pa_nil))) (pa_cons (pe_tup (pa_cons pe_str pa_nil)) pa_nil)))) (pa_cons (pe_tup (pa_cons pe_str (pa_cons (pv 1) (pa_cons (pv 3) pa_nil)))) pa_nil))))))
 (pss_cons (ps_for PassesOwn.never rfl (pi_list (pv 5)) (pg_name (i := 6) scSr.nd rfl (Or.inl rfl))
 (pss_cons (ps_set (i := 7) scSr.nd rfl (Or.inl rfl) (pe_call T0.GS hr23 (by rfl) T0.gS T0.kS T0.bS .nil pass0 (pa_cons (pv 1) (pa_cons (pv 6) pa_nil))))
 (pss_one (ps_if (PW.pt (pw_or (pt_not (pt_val (pe_callB call_isi (by rfl) T0.misinstance (by decide +kernel) (pa_cons (pv 7) (pa_cons (pe_bltn (v := V.ty "bool") (by rfl) T0.mbool (by decide +kernel) rfl) pa_nil))))) (pw_or1 (pt_cmpR op_ne (pv 7) (pe_call T0.GA hr22 (by rfl) T0.gA T0.kA T0.bA .nil pass0 (pa_cons (pv 1) (pa_cons (pv 6) (pa_cons (pe_slice sl_list (pv 2) po_none (po_some pe_int)) pa_nil)))) (nomark _)))))
 (pss_one (ps_ret pe_bl)) pss_nil))))
 (pss_one (ps_ret pe_bl))))))), ?_⟩
  refine ⟨_, rfl, _, rfl, _, rfl, _, rfl, T, L, 6, B, rfl, by decide, by decide, by omega, t0, fun H1 r r0 r1 t1 k1 => ?_⟩
  obtain ⟨j, hj⟩ : ∃ j : Nat, (7 : Int) + r = (j : Int) := ⟨(7 + r).toNat, by omega⟩
  have eN1 := k1 _ _ eN (nT_of t0 eN)
  have hs1 := st_keep (tupK_keep t0 k1) hs
  refine ⟨_, _, rfl, rfl, (j : Int), congrArg V.int hj, N, _, rfl, SqL.of eN1, fun Na na => ?_⟩
  have e7 : cutV (ws.map V.str) none (some (j : Int)) = (ws.take j).map V.str := cut_to ws j
  rw [e7]
  have s2 := same_new na (.lst ((ws.take j).map V.str))
  have ea : (upd H1 Na (.lst ((ws.take j).map V.str))) Na = some (.lst ((ws.take j).map V.str)) := upd_same
  have eN2 := s2 _ _ eN1
  have t2 := t1.same s2
  have hs2 := st_keep (TupK.of s2) hs1
  have k2 := k1.trans (Keep.of s2)
  generalize upd H1 Na (.lst ((ws.take j).map V.str)) = H2 at s2 ea eN2 t2 hs2 k2 ⊢
  have hsub : ∀ z ∈ ws.take 5, z ∈ ws.take j := fun z hz => by
    have : ws.take 5 = (ws.take j).take 5 := by rw [List.take_take, Nat.min_eq_left (by omega)]
    rw [this] at hz
    exact List.mem_of_mem_take hz
  refine ⟨T, L, Na, v, sy, ws.take j, _, rfl, t2, by omega, hs2, by omega, ea, by rw [List.length_take]; omega, fun z hz => hsub z (hsw z hz), fun H3 p ov o b t3 k3 ep ho hon hoz hod hb => ?_⟩
  have eN3 := k3 _ _ eN2 (nT_of t2 eN2)
  have hs3 := st_keep (tupK_keep t2 k3) hs2
  have k03 := k2.trans k3
  refine ⟨p, _, rfl, .inl (.inl ep), rfl, _, _, rfl, _, _, rfl, rfl, ?_⟩
  refine ⟨_, rfl, _, rfl, v, ov, sy, o, ws.take j, rfl, hs3, ho, by omega, by omega, by omega, by omega, by rw [List.length_take]; omega, fun z hz => hsub z (hsw z hz), hon, fun b1 H4 hb1 s4 => ?_⟩
  have eb1 : b1 = b := Bool.eq_iff_iff.mpr (hb1.trans hb.symm)
  subst eb1
  have hs4 := st_keep (TupK.of s4) hs3
  have ho4 := st_keep (TupK.of s4) ho
  refine ⟨_, rfl, rfl, _, rfl, ifF (by rw [decide_eq_true rfl]; rfl) ?_⟩
  refine ⟨_, rfl, _, rfl, ov, v, o, sy, ws.take j, rfl, ho4, hs4, by omega, by omega, by omega, by omega, by rw [List.length_take]; omega, hon, fun z hz => hsub z (hsw z hz), fun b2 H5 hb2 s5 => ?_⟩
  have eb2 : b2 = b1 := Bool.eq_iff_iff.mpr (hb2.trans ((⟨fun h r => (h r).symm, fun h r => (h r).symm⟩ : (∀ r, o.val r = sy.val r) ↔ ∀ r, sy.val r = o.val r).trans hb1.symm))
  subst eb2
  refine ⟨_, rfl, rfl, _, rfl, iteF' (by rw [decide_eq_true rfl]; rfl) ?_⟩
  have s45 := s4.trans s5
  have hs5 := st_keep (TupK.of s5) hs4
  have eN5 := s45 _ _ eN3
  have t5 := t3.same s45
  have k5 := k03.trans (Keep.of s45)
  clear hb1 hb2 hb ho4 ho ep hon hoz hod
  -- one more saying
  refine ⟨_, rfl, _, rfl, 4, rfl, N, _, rfl, SqL.of eN5, fun N4 n4 => ?_⟩
  have e4 : cutV (ws.map V.str) none (some 4) = (ws.take 4).map V.str := cut_to ws 4
  rw [e4]
  have s6 := same_new n4 (.lst ((ws.take 4).map V.str))
  have e6 : (upd H5 N4 (.lst ((ws.take 4).map V.str))) N4 = some (.lst ((ws.take 4).map V.str)) := upd_same
  have eN6 := s6 _ _ eN5
  have t6 := t5.same s6
  have hs6 := st_keep (TupK.of s6) hs5
  have k6 := k5.trans (Keep.of s6)
  generalize upd H5 N4 (.lst ((ws.take 4).map V.str)) = H6 at s6 e6 eN6 t6 hs6 k6 ⊢
  refine ⟨by show 1 ≤ sizeLine; decide, fun F nF => ?_⟩
  have sF := same_new nF (.lst [.int 8])
  have eF : (upd H6 F (.lst [.int 8])) F = some (.lst [.int 8]) := upd_same
  have nFL : F ≠ L := t6.nL nF
  have nFT : F ≠ T := t6.nT nF
  have nFN : N ≠ F := fun e => by
    rw [e, nF] at eN6
    cases eN6
  have e7 := sF _ _ e6
  have eN7 := sF _ _ eN6
  have t7 := t6.same sF
  have hs7 := st_keep (TupK.of sF) hs6
  have hF := nF
  generalize upd H6 F (.lst [.int 8]) = H7 at sF eF e7 eN7 t7 hs7 ⊢
  have lt4 : (ws.take 4).length = 4 := by rw [List.length_take, hl]; rfl
  have k7 := k6.trans (Keep.of sF)
  have F0 : H F = none := by
    refine k6.free nF nFT
  refine ⟨T, L, N4, F, ws.take 4, 8, _, 10, rfl, by decide, by decide, ⟨t7, eF, nFL⟩, by decide, e7, by rw [lt4]; decide, by rw [lt4]; decide, fun z hz => h8 z (List.mem_of_mem_take hz), by omega, fun H8 a d l' l0 l1 w8 kk8 hd hdd hdz hdn => ?_⟩
  have eN8 := kk8 _ _ eN7 (nT_of t7 eN7) nFN
  have hs8 := st_keep (Two.tup ⟨t7, eF, nFL⟩ kk8) hs7
  have t8 : Tape H8 T L (B + 1000) := w8.t.more (by omega)
  have k8 : Keep T H H8 := fun b o h n => by
    refine kk8 _ _ (k7 _ _ h n) n (fun e => ?_)
    rw [e, F0] at h
    cases h
  have hd5 : ∀ z ∈ d.names, z ∈ ws.take 5 := fun z hz => by
    have h4 := hdn z hz
    have : ws.take 4 = (ws.take 5).take 4 := by rw [List.take_take, Nat.min_eq_left (by decide)]
    rw [this] at h4
    exact List.mem_of_mem_take h4
  clear kk8 w8
  refine ⟨_, rfl, _, rfl, by show 2 ≤ sizeLine; decide, fun p1 nnp1 => ?_⟩
  have st := same_new nnp1 (.tup [.str "not", v])
  have eu : (upd H8 p1 (.tup [.str "not", v])) p1 = some (.tup [.str "not", v]) := upd_same
  have hs8 := st_keep (TupK.of st) hs8
  have hd := st_keep (TupK.of st) hd
  have eN8 := st _ _ eN8
  have t8 := t8.same st
  have k8 := k8.trans (Keep.of st)
  generalize upd H8 p1 (.tup [.str "not", v]) = Hb0 at st eu hs8 hd eN8 t8 k8 ⊢
  have hp1 : St Hb0 (.ref p1) (.nt sy) := .nt eu hs8
  clear st eu
  refine ⟨by show 2 ≤ sizeLine; decide, fun p2 nnp2 => ?_⟩
  have st := same_new nnp2 (.tup [.str "not", .ref p1])
  have eu : (upd Hb0 p2 (.tup [.str "not", .ref p1])) p2 = some (.tup [.str "not", .ref p1]) := upd_same
  have hs8 := st_keep (TupK.of st) hs8
  have hd := st_keep (TupK.of st) hd
  have eN8 := st _ _ eN8
  have t8 := t8.same st
  have k8 := k8.trans (Keep.of st)
  have hp1 := st_keep (TupK.of st) hp1
  generalize upd Hb0 p2 (.tup [.str "not", .ref p1]) = Hb1 at st eu hs8 hd eN8 t8 k8 hp1 ⊢
  have hp2 : St Hb1 (.ref p2) (.nt (.nt sy)) := .nt eu hp1
  clear st eu
  refine ⟨_, rfl, by show 2 ≤ sizeLine; decide, fun p3 nnp3 => ?_⟩
  have st := same_new nnp3 (.tup [.str "not", v])
  have eu : (upd Hb1 p3 (.tup [.str "not", v])) p3 = some (.tup [.str "not", v]) := upd_same
  have hs8 := st_keep (TupK.of st) hs8
  have hd := st_keep (TupK.of st) hd
  have eN8 := st _ _ eN8
  have t8 := t8.same st
  have k8 := k8.trans (Keep.of st)
  have hp1 := st_keep (TupK.of st) hp1
  have hp2 := st_keep (TupK.of st) hp2
  generalize upd Hb1 p3 (.tup [.str "not", v]) = Hb2 at st eu hs8 hd eN8 t8 k8 hp1 hp2 ⊢
  have hp3 : St Hb2 (.ref p3) (.nt sy) := .nt eu hs8
  clear st eu
  refine ⟨by show 1 ≤ sizeLine; decide, fun p4 nnp4 => ?_⟩
  have st := same_new nnp4 (.tup [.str "no"])
  have eu : (upd Hb2 p4 (.tup [.str "no"])) p4 = some (.tup [.str "no"]) := upd_same
  have hs8 := st_keep (TupK.of st) hs8
  have hd := st_keep (TupK.of st) hd
  have eN8 := st _ _ eN8
  have t8 := t8.same st
  have k8 := k8.trans (Keep.of st)
  have hp1 := st_keep (TupK.of st) hp1
  have hp2 := st_keep (TupK.of st) hp2
  have hp3 := st_keep (TupK.of st) hp3
  generalize upd Hb2 p4 (.tup [.str "no"]) = Hb3 at st eu hs8 hd eN8 t8 k8 hp1 hp2 hp3 ⊢
  have hp4 : St Hb3 (.ref p4) (.no) := .no eu
  clear st eu
  refine ⟨by show 3 ≤ sizeLine; decide, fun p5 nnp5 => ?_⟩
  have st := same_new nnp5 (.tup [.str "if", .ref p3, .ref p4])
  have eu : (upd Hb3 p5 (.tup [.str "if", .ref p3, .ref p4])) p5 = some (.tup [.str "if", .ref p3, .ref p4]) := upd_same
  have hs8 := st_keep (TupK.of st) hs8
  have hd := st_keep (TupK.of st) hd
  have eN8 := st _ _ eN8
  have t8 := t8.same st
  have k8 := k8.trans (Keep.of st)
  have hp1 := st_keep (TupK.of st) hp1
  have hp2 := st_keep (TupK.of st) hp2
  have hp3 := st_keep (TupK.of st) hp3
  have hp4 := st_keep (TupK.of st) hp4
  generalize upd Hb3 p5 (.tup [.str "if", .ref p3, .ref p4]) = Hb4 at st eu hs8 hd eN8 t8 k8 hp1 hp2 hp3 hp4 ⊢
  have hp5 : St Hb4 (.ref p5) (.bi .iff (.nt sy) .no) := .bi .iff eu hp3 hp4
  clear st eu
  refine ⟨_, rfl, _, rfl, by show 3 ≤ sizeLine; decide, fun p6 nnp6 => ?_⟩
  have st := same_new nnp6 (.tup [.str "and", v, .ref a])
  have eu : (upd Hb4 p6 (.tup [.str "and", v, .ref a])) p6 = some (.tup [.str "and", v, .ref a]) := upd_same
  have hs8 := st_keep (TupK.of st) hs8
  have hd := st_keep (TupK.of st) hd
  have eN8 := st _ _ eN8
  have t8 := t8.same st
  have k8 := k8.trans (Keep.of st)
  have hp1 := st_keep (TupK.of st) hp1
  have hp2 := st_keep (TupK.of st) hp2
  have hp3 := st_keep (TupK.of st) hp3
  have hp4 := st_keep (TupK.of st) hp4
  have hp5 := st_keep (TupK.of st) hp5
  generalize upd Hb4 p6 (.tup [.str "and", v, .ref a]) = Hb5 at st eu hs8 hd eN8 t8 k8 hp1 hp2 hp3 hp4 hp5 ⊢
  have hp6 : St Hb5 (.ref p6) (.bi .an sy d) := .bi .an eu hs8 hd
  clear st eu
  refine ⟨by show 4 ≤ sizeLine; decide, fun pl npl => ?_⟩
  have st := same_new npl (.lst [V.ref a, .ref p2, .ref p5, .ref p6])
  have epl : (upd Hb5 pl (.lst [V.ref a, .ref p2, .ref p5, .ref p6])) pl = some (.lst [V.ref a, .ref p2, .ref p5, .ref p6]) := upd_same
  have hs8 := st_keep (TupK.of st) hs8
  have hd := st_keep (TupK.of st) hd
  have eN8 := st _ _ eN8
  have t8 := t8.same st
  have k8 := k8.trans (Keep.of st)
  have hp2 := st_keep (TupK.of st) hp2
  have hp5 := st_keep (TupK.of st) hp5
  have hp6 := st_keep (TupK.of st) hp6
  generalize upd Hb5 pl (.lst [V.ref a, .ref p2, .ref p5, .ref p6]) = H9 at st epl hs8 hd eN8 t8 k8 hp2 hp5 hp6 ⊢
  have items : ∀ x ∈ [V.ref a, .ref p2, .ref p5, .ref p6], ∃ o, St H9 x o ∧ o.sz < 200 ∧ o.dep ≤ 20 ∧ ∀ z ∈ o.names, z ∈ ws.take 5 := by
    intro x hx
    rcases List.mem_cons.mp hx with rfl | hx
    · exact ⟨d, hd, by omega, by omega, hd5⟩
    rcases List.mem_cons.mp hx with rfl | hx
    · exact ⟨_, hp2, by show sy.sz + 1 + 1 < 200; omega, by show sy.dep + 1 + 1 ≤ 20; omega, hsw⟩
    rcases List.mem_cons.mp hx with rfl | hx
    · refine ⟨_, hp5, by show sy.sz + 1 + 1 + 1 < 200; omega, by show max (sy.dep + 1) 1 + 1 ≤ 20; omega, fun z hz => ?_⟩
      rcases List.mem_append.mp hz with hz | hz
      · exact hsw z hz
      · cases hz
    · rw [List.mem_singleton.mp hx]
      refine ⟨_, hp6, by show sy.sz + d.sz + 1 < 200; omega, by show max sy.dep d.dep + 1 ≤ 20; omega, fun z hz => ?_⟩
      rcases List.mem_append.mp hz with hz | hz
      · exact hsw z hz
      · exact hd5 z hz
  refine ⟨_, rfl, pl, rfl, ⟨_, SqL.of epl⟩, for_it (walk_list (K := K) (a := pl) (xs := [V.ref a, .ref p2, .ref p5, .ref p6])) (fun i σ H' => ∃ (u1 u2 : Option V), σ = [some (.ref T), some v, some (.ref N), some (.ref a), some (.bl b2), some (.ref pl), u1, u2] ∧ Same H9 H') ?_ ?_ ?_ ?_⟩
  · exact ⟨_, _, rfl, Same.refl _⟩
  · rintro i σ H' _ ⟨_, _, _, sA⟩
    exact SqL.of (sA _ _ epl)
  · rintro i x σ Hx HA hi ⟨u1, u2, rfl, sA⟩ ⟨rfl, hx⟩
    obtain ⟨o, hox, hoz, hod, hon⟩ := items x (List.mem_of_getElem? hx)
    have hoA := st_keep (TupK.of sA) hox
    have hsA := st_keep (TupK.of sA) hs8
    have eNA := sA _ _ eN8
    refine ⟨_, rfl, _, rfl, v, x, sy, o, ws.take 5, rfl, hsA, hoA, by omega, hoz, by omega, hod, by rw [List.length_take]; omega, hsw, hon, fun bb HB hbb sB => ?_⟩
    refine ⟨_, rfl, .bl _, .ty "bool", _, _, _, rfl, .ty _, .base (.bl _), kit_ty (by decide +kernel : kitB "bool" "bool" = some true), _, rfl, iteF ?_⟩
    have eNB := sB _ _ eNA
    have hsB := st_keep (TupK.of sB) hsA
    have hoB := st_keep (TupK.of sB) hoA
    refine ⟨_, rfl, _, rfl, _, rfl, _, rfl, 5, rfl, N, _, rfl, SqL.of eNB, fun N5 n5 => ?_⟩
    have e5 : cutV (ws.map V.str) none (some 5) = (ws.take 5).map V.str := cut_to ws 5
    rw [e5]
    have sC := same_new n5 (.lst ((ws.take 5).map V.str))
    have eC : (upd HB N5 (.lst ((ws.take 5).map V.str))) N5 = some (.lst ((ws.take 5).map V.str)) := upd_same
    have hsC := st_keep (TupK.of sC) hsB
    have hoC := st_keep (TupK.of sC) hoB
    generalize upd HB N5 (.lst ((ws.take 5).map V.str)) = HC at sC eC hsC hoC ⊢
    refine ⟨v, x, N5, sy, o, ws.take 5, rfl, hsC, hoC, by omega, hod, SqL.of eC, by rw [List.length_take]; omega, hsw, hon, fun b5 HD hb5 sD => ?_⟩
    have eb5 : bb = b5 := Bool.eq_iff_iff.mpr (hbb.trans hb5.symm)
    subst eb5
    refine ⟨rfl, _, rfl, iteF' (by rw [decide_eq_true rfl]; rfl) ?_⟩
    exact ⟨_, _, rfl, ((sA.trans sB).trans sC).trans sD⟩
  · rintro σ HE ⟨u1, u2, rfl, sE⟩
    exact q HE (t8.same sE) (k8.trans (Keep.of sE))
end
end My

set_option maxRecDepth 100000
set_option maxHeartbeats 4000000
namespace My
open PySem PySem.Spec PyProof.Rows L2 Dl
abbrev sLaw : Stmt := top 25
theorem scLaw : FnScope ["_law_script", "_law_tape_here", "_law_names", "_law_turn", "_law_saying_here", "_law_many", "_law_first", "_law_order", "_law_lacking", "_law_name", "_law_found", "_law_numbers", "_law_k", "_law_number"] ["_law_script"] (defScope sLaw) := ⟨rfl, rfl, rfl, by decide +kernel, rfl, by decide +kernel, by decide +kernel⟩
structure Defs (P : Program) (w : World) (K : PySem.W.Frag) (mg : Str → Option Value) (base : Heap) (fT fW fB fD fS fP fO fV fR fX : Addr) (dT dW dB dD dS dP dO dV dR dX : FuncData) : Prop where
  GT : FnOk P w K mg base CX0 1 fT dT ["_law_script"] (spTape K)
  gT : mg "_law_tape" = some (.ref fT)
  kT : PySem.W.keepIn K (.ref fT) = true
  bT : Binds K dT ["_law_script"] []
  GW : FnOk P w K mg base CX0 12 fW dW ["_law_tape_here", "_law_many"] (spWords K)
  gW : mg "_law_words" = some (.ref fW)
  kW : PySem.W.keepIn K (.ref fW) = true
  bW : Binds K dW ["_law_tape_here", "_law_many"] []
  GB : FnOk P w K mg base CX0 23 fB dB ["_law_tape_here"] spBr
  gB : mg "_law_bare_right" = some (.ref fB)
  kB : PySem.W.keepIn K (.ref fB) = true
  bB : Binds K dB ["_law_tape_here"] []
  GD : FnOk P w K mg base CX0 11 fD dD ["_law_tape_here", "_law_many"] (spDraw 11)
  gD : mg "_law_draw" = some (.ref fD)
  kD : PySem.W.keepIn K (.ref fD) = true
  bD : Binds K dD ["_law_tape_here", "_law_many"] []
  GS : FnOk P w K mg base CX0 37 fS dS ["_law_tape_here", "_law_names", "_law_left", "_law_deep"] (spSay 26)
  gS : mg "_law_saying" = some (.ref fS)
  kS : PySem.W.keepIn K (.ref fS) = true
  bS : Binds K dS ["_law_tape_here", "_law_names", "_law_left", "_law_deep"] []
  GP : FnOk P w K mg base CX0 2 fP dP ["saying"] spNames
  gP : mg "names_of" = some (.ref fP)
  kP : PySem.W.keepIn K (.ref fP) = true
  bP : Binds K dP ["saying"] []
  GO : FnOk P w K mg base CX0 23 fO dO ["_law_saying_here", "_law_names"] (spTold K)
  gO : mg "_law_told" = some (.ref fO)
  kO : PySem.W.keepIn K (.ref fO) = true
  bO : Binds K dO ["_law_saying_here", "_law_names"] []
  GV : FnOk P w K mg base CX0 21 fV dV ["_law_saying_here", "_law_row_here"] (spLV 20)
  gV : mg "_law_value" = some (.ref fV)
  kV : PySem.W.keepIn K (.ref fV) = true
  bV : Binds K dV ["_law_saying_here", "_law_row_here"] []
  GR : FnOk P w K mg base CX0 1 fR dR ["_law_names", "_law_number"] (spLR K)
  gR : mg "_law_row" = some (.ref fR)
  kR : PySem.W.keepIn K (.ref fR) = true
  bR : Binds K dR ["_law_names", "_law_number"] []
  GX : FnOk P w K mg base CX0 38 fX dX ["_law_tape_here", "_law_saying_here", "_law_names"] spSr
  gX : mg "_law_sames_right" = some (.ref fX)
  kX : PySem.W.keepIn K (.ref fX) = true
  bX : Binds K dX ["_law_tape_here", "_law_saying_here", "_law_names"] []
  mrange : mg "range" = none
  mlist : mg "list" = none
  misinstance : mg "isinstance" = none
  mbool : mg "bool" = none
  mint : mg "int" = none
/-- what a turn keeps: the tape, the names, the saying -/
structure Cq (H : Hp) (T L N : Addr) (ws : List Str) (v : V) (s : Sy) (B : Int) : Prop where
  t : Tape H T L B
  n : H N = some (.lst (ws.map V.str))
  h : St H v s
theorem Cq.same {H H' : Hp} {T L N : Addr} {ws : List Str} {v : V} {s : Sy} {B : Int} (c : Cq H T L N ws v s B) (e : Same H H') : Cq H' T L N ws v s B := ⟨c.t.same e, e _ _ c.n, st_keep (TupK.of e) c.h⟩
theorem Cq.keep {H H' : Hp} {T L N : Addr} {ws : List Str} {v : V} {s : Sy} {B B' : Int} (c : Cq H T L N ws v s B) (k : Keep T H H') (t : Tape H' T L B') : Cq H' T L N ws v s B' := ⟨t, k _ _ c.n (nT_of c.t c.n), st_keep (tupK_keep c.t k) c.h⟩
theorem cut_from (ws : List Str) (n : Nat) : cutV (ws.map V.str) (some (n : Int)) none = (ws.drop n).map V.str := by
  unfold cutV
  rw [show HT.sIx (ws.map V.str).length 0 (some (n : Int)) = min n (ws.map V.str).length from HT.sIx_nat _ _ n, HT.sIx_none, List.length_map, ← List.map_drop]
  by_cases h : n ≤ ws.length
  · rw [Nat.min_eq_left h, List.map_drop, List.take_of_length_le (by rw [List.length_drop, List.length_map]; exact Nat.le_refl _)]
  · rw [Nat.min_eq_right (by omega), List.drop_of_length_le (Nat.le_refl _), List.drop_of_length_le (by omega)]
    simp
theorem s_step {R : Hp → Hp → Prop} [Edg R] {K : PySem.W.Frag} {σ : L2.St} {H : Hp} {te ts : TE} {ds : List PD} {D : Ends} {i : Nat} (h : LE R K te σ H ds)
    (k : ∀ a H1, H a = none → Same H H1 → Lt K H1 a ds → ts σ H1 fun v H2 => ∃ i1 : Int, v = .int i1 ∧ ∃ (b : Addr) (xs : List V) (st : Int), V.ref a = .ref b ∧ some i1 = some st ∧ (st = 1 ∨ st = -1) ∧ SqL K H2 b xs ∧ ∀ p, H2 p = none → D.nx (σ.set i (some (.ref p))) (upd H2 p (.lst (if st = 1 then xs else xs.reverse)))) : tAsg (tStepL K te ts) (gName i) D σ H := by
  refine h H (Edg.refl H) _ fun a H1 n s l => ?_
  exact k a H1 n s l
theorem lack_filter {os ys : List Str} : lackL os ys = (ys.filter fun z => !decide (z ∈ os)).head? := by
  unfold lackL
  rw [List.head?_filter]
def spLaw (K : PySem.W.Frag) : Sp := fun vs H Q _ => ∃ (a : Addr) (ns : List Int), vs = [.ref a] ∧ SqL K H a (ns.map V.int) ∧ ∀ H', Q (.bl true) H'
section
variable {P : Program} {w : World} {K : PySem.W.Frag} {mg : Str → Option Value} {base : Heap} {f fT fW fB fD fS fP fO fV fR fX : Addr} {fd dT dW dB dD dS dP dO dV dR dX : FuncData}
theorem ok_law (F0 : FnP K "law" sLaw f fd) (C : Defs P w K mg base fT fW fB fD fS fP fO fV fR fX dT dW dB dD dS dP dO dV dR dX) : FnOk P w K mg base CX0 39 f fd ["_law_script"] (spLaw K) := by
  refine F0.ok scLaw (fun vs H Q E h => ?_) (fun cdv A outer s H vs Q E hr h => ?_)
  · obtain ⟨a, ns, rfl, _⟩ := h
    rfl
  obtain ⟨a0, ns, rfl, hS, q⟩ := h
  have hu := hu_of hr
  have hu64 := hr.units
  have hr1 : Room 1 _ := hr.mono (by omega)
  have hr2 : Room 2 _ := hr.mono (by omega)
  have hr11 : Room 11 _ := hr.mono (by omega)
  have hr12 : Room 12 _ := hr.mono (by omega)
  have hr21 : Room 21 _ := hr.mono (by omega)
  have hr23 : Room 23 _ := hr.mono (by omega)
  have hr37 : Room 37 _ := hr.mono (by omega)
  have hr38 : Room 38 _ := hr.mono (by omega)
  refine ⟨_, PSs.nox (pss_cons (ps_set (i := 1) scLaw.nd rfl (Or.inr rfl) (pe_call C.GT hr1 (by rfl) C.gT C.kT C.bT .nil pass0 (pa_cons (pv 0) pa_nil)))
 (pss_cons (ps_set (i := 2) scLaw.nd rfl (Or.inl rfl) (pe_call C.GW hr12 (by rfl) C.gW C.kW C.bW .nil pass0 (pa_cons (pv 1) (pa_cons pe_int pa_nil))))
 (pss_cons (ps_if (pt_not (pt_val (pe_call C.GB hr23 (by rfl) C.gB C.kB C.bB .nil pass0 (pa_cons (pv 1) pa_nil))))
 (pss_one (ps_ret pe_bl)) pss_nil)
 (pss_cons (ps_for PassesOwn.never rfl (pi_range1 (by rfl) C.mrange (pa_cons pe_int pa_nil)) (pg_name (i := 3) scLaw.nd rfl (Or.inl rfl))
 (pss_cons (ps_set (i := 4) scLaw.nd rfl (Or.inl rfl) (pe_call C.GS hr37 (by rfl) C.gS C.kS C.bS .nil pass0 (pa_cons (pv 1) (pa_cons (pe_slice sl_list (pv 2) po_none (po_some pe_int)) (pa_cons (pe_lst (pa_cons (pe_ix ix_list (pe_lst (pa_cons pe_int (pa_cons pe_int pa_nil))) (pe_call C.GD hr11 (by rfl) C.gD C.kD C.bD .nil pass0 (pa_cons (pv 1) (pa_cons pe_int pa_nil))) (fun _ _ => rfl)) pa_nil)) (pa_cons pe_int pa_nil))))))
 (pss_cons (ps_set (i := 5) scLaw.nd rfl (Or.inl rfl) (pe_ix ix_list (pe_lst (pa_cons pe_int (pa_cons pe_int (pa_cons pe_int (pa_cons (pe_op op_add pe_int (pe_call C.GD hr11 (by rfl) C.gD C.kD C.bD .nil pass0 (pa_cons (pv 1) (pa_cons pe_int pa_nil)))) pa_nil))))) (pe_call C.GD hr11 (by rfl) C.gD C.kD C.bD .nil pass0 (pa_cons (pv 1) (pa_cons pe_int pa_nil))) (fun _ _ => rfl)))
 (pss_cons (ps_set (i := 6) scLaw.nd rfl (Or.inl rfl) (pe_call C.GD hr11 (by rfl) C.gD C.kD C.bD .nil pass0 (pa_cons (pv 1) (pa_cons pe_int pa_nil))))
 (pss_cons (ps_set (i := 7) scLaw.nd rfl (Or.inr rfl) (pe_stepL (pe_op op_cat (pe_slice sl_list (pe_slice sl_list (pv 2) po_none (po_some (pv 5))) (po_some (pv 6)) po_none) (pe_slice sl_list (pe_slice sl_list (pv 2) po_none (po_some (pv 5))) po_none (po_some (pv 6)))) (pe_ix ix_list (pe_lst (pa_cons pe_int (pa_cons (pe_un un_neg pe_int) pa_nil))) (pe_call C.GD hr11 (by rfl) C.gD C.kD C.bD .nil pass0 (pa_cons (pv 1) (pa_cons pe_int pa_nil))) (fun _ _ => rfl))))
 (pss_cons (ps_setLc (i := 8) (own := [("_law_name", 9)]) (g := gName 9) (tt := _) (by rfl) scLaw.nd rfl rfl (sw_true rfl rfl rfl (by decide +kernel)) (pi_list (pe_call C.GP hr2 (by rfl) C.gP C.kP C.bP .nil pass0 (pa_cons (pv 4) pa_nil))) (blkOk_by (own := [("_law_name", 9)]) (N := ["_law_script", "_law_tape_here", "_law_names", "_law_turn", "_law_saying_here", "_law_many", "_law_first", "_law_order", "_law_lacking", "_law_name", "_law_found", "_law_numbers", "_law_k", "_law_number"]) (sc := defScope sLaw) (by decide +kernel)) (fun _ _ _ _ _ => pg_name (i := 9) scLaw.nd rfl (Or.inl rfl)) (fun _ _ _ _ _ => (pts_one (pt_cmpR (show OpR _ (compareOp .NotIn) (rIn K true) from op_notIn_seq) (pv 9) (pv 7) rfl))) (fun _ _ _ _ _ => (pv 9)))
 (pss_cons (ps_set (i := 10) scLaw.nd rfl (Or.inl rfl) (pe_call C.GO hr23 (by rfl) C.gO C.kO C.bO .nil pass0 (pa_cons (pv 4) (pa_cons (pe_callTy call_list_of (by rfl) C.mlist (by decide +kernel) (pa_cons (pv 7) pa_nil)) pa_nil))))
 (pss_cons (ps_if (pt_cmpR (op_neP hu64) (pv 8) (pe_lst pa_nil) (nomark _))
 (pss_one (ps_if (pt_cmpR (op_neP hu64) (pv 10) (pe_tup (pa_cons (pe_ix ix_list (pv 8) pe_int (fun _ _ => rfl)) pa_nil)) (nomark _))
 (pss_one (ps_ret pe_bl)) pss_nil)) (pss_one (ps_if (PW.pt (pw_or (pt_val (pe_callB call_isi (by rfl) C.misinstance (by decide +kernel) (pa_cons (pv 10) (pa_cons (pe_bltn (v := V.ty "bool") (by rfl) C.mbool (by decide +kernel) rfl) pa_nil)))) (pw_or (pt_not (pt_val (pe_callB call_isi (by rfl) C.misinstance (by decide +kernel) (pa_cons (pv 10) (pa_cons (pe_bltn (v := V.ty "int") (by rfl) C.mint (by decide +kernel) rfl) pa_nil))))) (pw_or1 (pt_not (pt_chain op_le op_lt pe_int (pv 10) (pe_op op_oneShl pe_int (pe_op op_oneShl pe_int (pv 5)))))))))
 (pss_one (ps_ret pe_bl)) (pss_cons (ps_set (i := 11) scLaw.nd rfl (Or.inl rfl) (pe_ifExp (pt_cmpR op_lt (pv 5) pe_int (nomark _)) (pe_listRg rfl (by rfl) C.mlist (prg_1 (by rfl) C.mrange (pe_op op_oneShl pe_int (pv 5)))) (pe_op op_cat (pe_lc (own := [("_law_k", 12)]) (g := gName 12) (tt := tYes) (by rfl) scLaw.nd (pi_range1 (by rfl) C.mrange (pa_cons pe_int pa_nil)) (blkOk_by (own := [("_law_k", 12)]) (N := ["_law_script", "_law_tape_here", "_law_names", "_law_turn", "_law_saying_here", "_law_many", "_law_first", "_law_order", "_law_lacking", "_law_name", "_law_found", "_law_numbers", "_law_k", "_law_number"]) (sc := defScope sLaw) (by decide +kernel)) (fun _ _ _ _ _ => pg_name (i := 12) scLaw.nd rfl (Or.inl rfl)) (fun _ _ _ _ _ => pts_nil) (fun _ _ _ _ _ => (pe_call C.GD hr11 (by rfl) C.gD C.kD C.bD .nil pass0 (pa_cons (pv 1) (pa_cons pe_int pa_nil))))) (pe_lst (pa_cons pe_int (pa_cons pe_int pa_nil))))))
 (pss_one (ps_for PassesOwn.never rfl (pi_list (pv 11)) (pg_name (i := 13) scLaw.nd rfl (Or.inl rfl))
 (pss_one (ps_if (pt_cmpR op_ne (pe_cmpR op_eq (pe_op op_and (pe_op op_shr (pv 10) (pv 13)) pe_int) pe_int (nomark _)) (pe_call C.GV hr21 (by rfl) C.gV C.kV C.bV .nil pass0 (pa_cons (pv 4) (pa_cons (pe_call C.GR hr1 (by rfl) C.gR C.kR C.bR .nil pass0 (pa_cons (pv 7) (pa_cons (pv 13) pa_nil))) pa_nil))) (nomark _))
 (pss_one (ps_ret pe_bl)) pss_nil))))))))
 (pss_one (ps_if (pt_not (pt_val (pe_call C.GX hr38 (by rfl) C.gX C.kX C.bX .nil pass0 (pa_cons (pv 1) (pa_cons (pv 4) (pa_cons (pv 2) pa_nil))))))
 (pss_one (ps_ret pe_bl)) pss_nil))))))))))
 (pss_one (ps_ret pe_bl)))))), ?_⟩
  have hsm : ∀ n : Nat, n ≤ 1000 → n ≤ sizeLine := fun n h => small h
  refine ⟨_, rfl, a0, ns, rfl, hS, fun H1 T L t1 s1 _ _ => ?_⟩
  refine ⟨_, rfl, T, L, 12, 0, rfl, by decide, by decide, t1, fun H2 N ws hl hw eN _ t2 k2 => ?_⟩
  refine ⟨_, rfl, T, L, _, rfl, t2, by decide, fun H3 t3 k3 => ⟨_, rfl, iteF ?_⟩⟩
  have eN3 := k3 _ _ eN (nT_of t2 eN)
  refine ⟨4, rfl, by decide, by decide, for_range (lo := 0) (n := (4 : Int).toNat) (fun i σ H' => ∃ (v1 v2 v3 v4 v5 v6 v7 v8 v9 va vb : Option V),
    σ = [some (.ref a0), some (.ref T), some (.ref N), v1, v2, v3, v4, v5, v6, v7, v8, v9, va, vb] ∧ H' N = some (.lst (ws.map V.str)) ∧ Tape H' T L (2000 + 10000 * i)) ?_ ?_ ?_⟩
  · exact ⟨_, _, _, _, _, _, _, _, _, _, _, rfl, eN3, t3.more (by omega)⟩
  case refine_3 =>
    rintro σ H4 ⟨v1, v2, v3, v4, v5, v6, v7, v8, v9, va, vb, rfl, _, _⟩
    exact q H4
  rintro i σ H3 hi ⟨v1, v2, v3, v4, v5, v6, v7, v8, v9, va, vb, rfl, eN3, t3⟩
  have hi4 : i < 4 := hi
  -- a saying
  refine ⟨_, rfl, _, rfl, 5, rfl, N, _, rfl, SqL.of eN3, fun N6 n6 => ?_⟩
  have e6 : cutV (ws.map V.str) none (some 5) = (ws.take 5).map V.str := cut_to ws 5
  have s6 := same_new n6 (.lst (cutV (ws.map V.str) none (some 5)))
  have f6 : (upd H3 N6 (.lst (cutV (ws.map V.str) none (some 5)))) N6 = some (.lst ((ws.take 5).map V.str)) := by rw [upd_same, e6]
  have eN4 := s6 _ _ eN3
  have t4 := t3.same s6
  generalize upd H3 N6 (.lst (cutV (ws.map V.str) none (some 5))) = H4 at s6 f6 eN4 t4 ⊢
  refine ⟨hsm 2 (by decide), fun pc nc => ?_⟩
  have sc := same_new nc (.lst [.int 6, .int 40])
  have ec : (upd H4 pc (.lst [.int 6, .int 40])) pc = some (.lst [.int 6, .int 40]) := upd_same
  have f6' := sc _ _ f6
  have eN5 := sc _ _ eN4
  have t5 := t4.same sc
  generalize upd H4 pc (.lst [.int 6, .int 40]) = H5 at sc ec f6' eN5 t5 ⊢
  refine ⟨_, rfl, T, L, 2, _, rfl, by decide, by decide, by omega, t5, fun H6 r r0 r1 t6 k6 => ?_⟩
  have ec6 := k6 _ _ ec (nT_of t5 ec)
  have g6 := k6 _ _ f6' (nT_of t5 f6')
  have eN6 := k6 _ _ eN5 (nT_of t5 eN5)
  obtain ⟨l, hl1, hl0, hl3⟩ : ∃ l : Int, atI [V.int 6, V.int 40] r = some (.int l) ∧ 0 ≤ l ∧ l ≤ 40 := by
    have c2 : r = 0 ∨ r = 1 := by omega
    rcases c2 with rfl | rfl <;> exact ⟨_, rfl, by decide, by decide⟩
  refine ⟨pc, _, _, _, rfl, rfl, SqL.of ec6, hl1, hsm 1 (by decide), fun F nF => ?_⟩
  have sF := same_new nF (.lst [.int l])
  have eF : (upd H6 F (.lst [.int l])) F = some (.lst [.int l]) := upd_same
  have eN7 := sF _ _ eN6
  have g7 := sF _ _ g6
  have t7 := t6.same sF
  have nFL : F ≠ L := t6.nL nF
  have nNF : N ≠ F := fun e => by
    rw [e, nF] at eN6
    cases eN6
  generalize upd H6 F (.lst [.int l]) = H7 at sF eF eN7 g7 t7 ⊢
  have lt6 : (ws.take 5).length = 5 := by rw [List.length_take, hl]; rfl
  refine ⟨T, L, N6, F, ws.take 5, l, _, 10, rfl, by decide, by decide, ⟨t7, eF, nFL⟩, hl0, g7, by rw [lt6]; decide, by rw [lt6]; decide, fun z hz => hw z (List.mem_of_mem_take hz), by omega, fun H8 a d l' l0 l1 w8 k8 tt ft zt mt => ?_⟩
  have eN8 := k8 _ _ eN7 (nT_of t7 eN7) nNF
  have t8 : Tape H8 T L (2000 + 10000 * (i : Int) + 11 + 33 * 41) := w8.t.more (by omega)
  clear w8 k8 nNF nFL g7 t7 eN7 eF sF g6 ec6 eN6 k6 t6 f6' eN5 t5 sc ec f6 e6 s6 eN4 t4 eN3 t3
  have c8 : Cq H8 T L N ws (.ref a) d _ := ⟨t8, eN8, tt⟩
  have hz200 : d.sz < 200 := by omega
  have hd20 : d.dep ≤ 20 := by omega
  have few : Few d := ⟨ws.take 5, by omega, mt⟩
  clear t8 eN8 tt
  -- how many names, the first of them
  refine ⟨_, rfl, T, L, 6, _, rfl, by decide, by decide, by omega, c8.t, fun H9 r9 r90 r91 t9 k9 => ?_⟩
  have c9 := c8.keep k9 t9
  refine ⟨_, _, rfl, rfl, hsm 4 (by decide), fun pm nm => ?_⟩
  have sm := same_new nm (.lst [.int 5, .int 5, .int 12, .int (1 + r9)])
  have em : (upd H9 pm (.lst [.int 5, .int 5, .int 12, .int (1 + r9)])) pm = some (.lst [.int 5, .int 5, .int 12, .int (1 + r9)]) := upd_same
  have cm := c9.same sm
  generalize upd H9 pm (.lst [.int 5, .int 5, .int 12, .int (1 + r9)]) = Hm at sm em cm ⊢
  refine ⟨_, rfl, T, L, 4, _, rfl, by decide, by decide, by omega, cm.t, fun Ha ra ra0 ra1 ta ka => ?_⟩
  have ca := cm.keep ka ta
  have ema := ka _ _ em (nT_of cm.t em)
  obtain ⟨m, hm, m0, m12⟩ : ∃ m : Nat, atI [V.int 5, .int 5, .int 12, .int (1 + r9)] ra = some (.int (m : Int)) ∧ 1 ≤ m ∧ (m ≤ 6 ∨ m = 12) := by
    obtain ⟨u, rfl⟩ : ∃ u : Nat, r9 = (u : Int) := ⟨r9.toNat, by omega⟩
    have c4 : ra = 0 ∨ ra = 1 ∨ ra = 2 ∨ ra = 3 := by omega
    rcases c4 with rfl | rfl | rfl | rfl
    · exact ⟨5, rfl, by decide, by decide⟩
    · exact ⟨5, rfl, by decide, by decide⟩
    · exact ⟨12, rfl, by decide, by decide⟩
    · refine ⟨1 + u, ?_, by omega, by omega⟩
      rw [show ((1 + u : Nat) : Int) = 1 + (u : Int) by omega]
      rfl
  refine ⟨pm, _, _, _, rfl, rfl, SqL.of ema, hm, ?_⟩
  refine ⟨_, rfl, T, L, 12, _, rfl, by decide, by decide, by omega, ca.t, fun Hb rb rb0 rb1 tb kb => ?_⟩
  have cb := ca.keep kb tb
  obtain ⟨u, rfl⟩ : ∃ u : Nat, rb = (u : Int) := ⟨rb.toNat, by omega⟩
  clear ema em sm nm hm ca ta ka c8 c9 t9 k9 cm kb tb hl1 hl0 r0 r1
  -- their order
  have hN := dp_strL (K := K) (SqL.of cb.n)
  refine s_step (R := Same) (le_cat (le_slL (de_le (le_slL (de_var rfl hN) do_none (do_some (de_var rfl (.int _))))) (do_some (de_var rfl (.int _))) do_none) (le_slL (de_le (le_slL (de_var rfl hN) do_none (do_some (de_var rfl (.int _))))) do_none (do_some (de_var rfl (.int _)))) ?_) fun pO Hc nO sO lO => ?_
  · rw [cutD_to, cutD_from, cutD_to]
    simp only [List.length_take, List.length_drop, List.length_map]
    omega
  have e0 : cutD (cutD (ws.map PyData.str) none (some (m : Int))) (some (u : Int)) none ++ cutD (cutD (ws.map PyData.str) none (some (m : Int))) none (some (u : Int)) = (((ws.take m).drop u) ++ ((ws.take m).take u)).map PyData.str := by
    rw [cutD_to, cutD_from, cutD_to]
    simp only [List.map_append, List.map_drop, List.map_take]
  rw [e0] at lO
  have eO := lt_strs lO
  obtain ⟨os0, hos0⟩ : ∃ os0, os0 = ((ws.take m).drop u) ++ ((ws.take m).take u) := ⟨_, rfl⟩
  rw [← hos0] at eO
  have hm12 : (ws.take m).length = m := by
    rw [List.length_take, hl]
    omega
  have hlo : os0.length = m := by
    rw [hos0, List.length_append, List.length_drop, List.length_take (i := u), hm12]
    omega
  have cc := cb.same sO
  clear lO e0 hos0 nO sO hN cb
  refine ⟨_, rfl, hsm 2 (by decide), fun pl npl => ?_⟩
  have sl := same_new npl (.lst [.int 1, .int (-1)])
  have el : (upd Hc pl (.lst [.int 1, .int (-1)])) pl = some (.lst [.int 1, .int (-1)]) := upd_same
  have eO1 := sl _ _ eO
  have cd := cc.same sl
  generalize upd Hc pl (.lst [.int 1, .int (-1)]) = Hd at sl el eO1 cd ⊢
  refine ⟨_, rfl, T, L, 2, _, rfl, by decide, by decide, by omega, cd.t, fun He re re0 re1 te ke => ?_⟩
  have ce := cd.keep ke te
  have el2 := ke _ _ el (nT_of cd.t el)
  have eO2 := ke _ _ eO1 (nT_of cd.t eO1)
  obtain ⟨st, hst, hst1⟩ : ∃ st : Int, atI [V.int 1, .int (-1)] re = some (.int st) ∧ (st = 1 ∨ st = -1) := by
    have c2 : re = 0 ∨ re = 1 := by omega
    rcases c2 with rfl | rfl
    · exact ⟨1, rfl, .inl rfl⟩
    · exact ⟨-1, rfl, .inr rfl⟩
  refine ⟨pl, _, _, _, rfl, rfl, SqL.of el2, hst, st, rfl, pO, _, st, rfl, rfl, hst1, SqL.of eO2, fun O nO => ?_⟩
  obtain ⟨os, hos, hlos⟩ : ∃ os : List Str, (if st = 1 then os0.map V.str else (os0.map V.str).reverse) = os.map V.str ∧ os.length = m := by
    rcases hst1 with rfl | rfl
    · exact ⟨os0, rfl, hlo⟩
    · exact ⟨os0.reverse, by rw [if_neg (by decide), List.map_reverse], by rw [List.length_reverse]; exact hlo⟩
  rw [hos]
  have sO := same_new nO (.lst (os.map V.str))
  have eo : (upd He O (.lst (os.map V.str))) O = some (.lst (os.map V.str)) := upd_same
  have cf := ce.same sO
  generalize upd He O (.lst (os.map V.str)) = Hf at sO eo cf ⊢
  clear hos hst hst1 eO2 el2 ce te ke eO1 el sl cd cc eO hlo
  -- what is lacking
  refine ⟨_, rfl, .ref a, d, rfl, cf.h, hz200, ⟨ws.take 5, by omega, mt⟩, fun Hg p1 ys sg ng eg sog ndg mg1 => ?_⟩
  have cg := cf.same sg
  have eog := sg _ _ eo
  refine ⟨p1, rfl, ⟨_, SqL.of eg⟩, fun D nD => lc_list (K := K) (a := p1) (xs := ys.map V.str) (fun j H' => H' D = some (.lst (((ys.take j).filter fun z => !decide (z ∈ os)).map V.str)) ∧ Same Hg H') ?_ ?_ ?_ ?_⟩
  · exact ⟨upd_same, same_new nD _⟩
  · rintro j H' _ ⟨_, sm⟩
    exact SqL.of (sm _ _ eg)
  · rintro j x H' hx ⟨eD, sm⟩
    rw [List.getElem?_map] at hx
    cases ez : ys[j]? with
    | none => rw [ez] at hx; cases hx
    | some z =>
      rw [ez] at hx
      cases hx
      refine ⟨rfl, _, rfl, _, rfl, O, _, rfl, .inl (SqL.of (sm _ _ eog)), rfl, flat_strs os, _, rfl, ?_⟩
      rw [inV_strs]
      have et : (ys.take (j + 1)).filter (fun z => !decide (z ∈ os)) = (ys.take j).filter (fun z => !decide (z ∈ os)) ++ (if (!decide (z ∈ os)) = true then [z] else []) := filt_take (c := fun z => !decide (z ∈ os)) ez
      show (if (!decide (z ∈ os)) = true then _ else _)
      cases ci : decide (z ∈ os) with
      | true =>
        refine iteF ⟨?_, sm⟩
        rw [et, ci]
        show H' D = some (.lst ((_ ++ ([] : List Str)).map V.str))
        rw [List.append_nil]
        exact eD
      | false =>
        refine iteT ⟨_, rfl, _, eD, ?_, ?_, ?_⟩
        · rw [List.length_map]
          have h1 := List.length_filter_le (fun z => !decide (z ∈ os)) (ys.take j)
          rw [List.length_take] at h1
          have h2 := sub_len ys (ws.take 5) ndg fun z hz => mt z ((mg1 z).mp hz)
          exact small1000 (by omega)
        · rw [upd_same, et, ci, List.map_append]
          rfl
        · exact same_mut sm nD
  rintro Hh ⟨eD, sh⟩
  rw [List.length_map, List.take_length] at eD
  have ch := cg.same sh
  have eoh := sh _ _ eog
  clear eg sh eog cg sg ng cf eo nD
  have eF := lack_filter (os := os) (ys := ys)
  obtain ⟨ls, hls⟩ : ∃ ls, ls = ys.filter fun z => !decide (z ∈ os) := ⟨_, rfl⟩
  rw [← hls] at eF eD
  -- what is told
  refine ⟨_, rfl, _, rfl, O, _, rfl, .inl (SqL.of eoh), fun O2 nO2 => ?_⟩
  have sO2 := same_new nO2 (.lst (os.map V.str))
  have eo2 : (upd Hh O2 (.lst (os.map V.str))) O2 = some (.lst (os.map V.str)) := upd_same
  have ci := ch.same sO2
  have eoi := sO2 _ _ eoh
  have eDi := sO2 _ _ eD
  generalize upd Hh O2 (.lst (os.map V.str)) = Hi at sO2 eo2 ci eoi eDi ⊢
  clear ch eoh eD sO2
  have hdO : ∀ z ∈ d.names, z ∈ ys := fun z hz => (mg1 z).mpr hz
  refine ⟨.ref a, O2, d, os, ys, rfl, ci.h, hz200, hd20, few, SqL.of eo2, by omega, sog, ndg, mg1, fun hl0 x Hj sj hx => ?_, fun z hz p Hj sj np ep => ?_⟩
  case refine_2 =>
    have cj := ci.same sj
    have eDj := sj _ _ eDi
    rw [eF] at hz
    obtain ⟨r, er⟩ : ∃ r, ls = z :: r := by
      cases ls with
      | nil => cases hz
      | cons y r =>
        cases hz
        exact ⟨r, rfl⟩
    rw [er] at eDj
    refine ⟨_, rfl, Nat.zero_le _, fun E0 nE0 => ?_⟩
    have s0 := same_new nE0 (.lst [])
    have e0 : (upd Hj E0 (.lst [])) E0 = some (.lst []) := upd_same
    have ck := cj.same s0
    have eDk := s0 _ _ eDj
    have epk := s0 _ _ ep
    generalize upd Hj E0 (.lst []) = Hk at s0 e0 ck eDk epk ⊢
    refine ⟨.list ((z :: r).map PyData.str), .list ([].map PyData.str), .lst (SqL.of eDk) (dp_strs _), .lst (SqL.of e0) .nil, plain_strsL _, plain_strsL [], by rw [depth_strsL, depth_strsL]; decide, _, rfl, iteT ?_⟩
    refine ⟨_, rfl, _, rfl, D, _, _, _, rfl, rfl, SqL.of eDk, at0, by show 1 ≤ sizeLine; decide, fun t1 nt1 => ?_⟩
    have s1 := same_new nt1 (.tup [.str z])
    have e1 : (upd Hk t1 (.tup [.str z])) t1 = some (.tup [.str z]) := upd_same
    have cl := ck.same s1
    have epl := s1 _ _ epk
    generalize upd Hk t1 (.tup [.str z]) = Hl at s1 e1 cl epl ⊢
    refine ⟨.tuple [.str z], .tuple [.str z], .tup (SqT.of epl) (.cons (.str z) .nil), .tup (SqT.of e1) (.cons (.str z) .nil), rfl, rfl, Nat.le_trans (Nat.min_le_left _ _) (by simp [PyData.depth, PyData.depthAll]), _, rfl, iteF' (by simp [PyData.eqv, PyData.eqvAll]) ?_⟩
    refine ⟨_, rfl, _, rfl, _, rfl, T, L, N, .ref a, d, ws, _, rfl, cl.t, by omega, cl.h, by omega, by omega, cl.n, hl, hw, mt, fun H' t' k' => ⟨_, rfl, iteF ?_⟩⟩
    exact ⟨_, _, _, _, _, _, _, _, _, _, _, rfl, (cl.keep k' t').n, t'.more (by omega)⟩
  have els : ls = [] := by
    rw [eF] at hl0
    cases ls with
    | nil => rfl
    | cons y r => cases hl0
  have cj := ci.same sj
  have eDj := sj _ _ eDi
  have eoj := sj _ _ eoi
  rw [els] at eDj
  have hdos : ∀ z ∈ d.names, z ∈ os := fun z hz => by
    have h1 := hdO z hz
    by_cases h : z ∈ os
    · exact h
    · have : z ∈ ls := by
        rw [hls]
        exact List.mem_filter.mpr ⟨h1, by rw [decide_eq_false h]; rfl⟩
      rw [els] at this
      cases this
  refine ⟨_, rfl, Nat.zero_le _, fun E0 nE0 => ?_⟩
  have s0 := same_new nE0 (.lst [])
  have e0 : (upd Hj E0 (.lst [])) E0 = some (.lst []) := upd_same
  have ck := cj.same s0
  have eDk := s0 _ _ eDj
  have eok := s0 _ _ eoj
  generalize upd Hj E0 (.lst []) = Hk at s0 e0 ck eDk eok ⊢
  refine ⟨.list [], .list [], .lst (SqL.of eDk) .nil, .lst (SqL.of e0) .nil, rfl, rfl, by decide, _, rfl, iteF' rfl ?_⟩
  rw [hlos] at hx
  have hlt := hx.lt
  have pm12 := pow_le12 (n := m) (by omega)
  refine ⟨_, rfl, .int _, .ty "bool", _, _, _, rfl, .ty _, .base (.int _), kit_ty (by decide +kernel : kitB "int" "bool" = some false), _, rfl, iteF ?_⟩
  refine ⟨_, rfl, .int _, .ty "int", _, _, _, rfl, .ty _, .base (.int _), kit_ty (by decide +kernel : kitB "int" "int" = some true), _, rfl, iteF ?_⟩
  refine ⟨_, rfl, _, _, rfl, rfl, _, rfl, ?_⟩
  rw [decide_eq_true (show (0 : Int) ≤ (x : Int) by omega)]
  refine iteT ⟨_, rfl, m, rfl, rfl, by omega, 2 ^ m, rfl, congrArg V.int (p2 m), by omega, _, _, rfl, rfl, _, rfl, ?_⟩
  rw [decide_eq_true (show (x : Int) < 2 ^ 2 ^ m by rw [p2]; omega)]
  refine iteF ?_
  -- the numbers
  refine ⟨_, rfl, _, _, rfl, rfl, _, rfl, ?_⟩
  rcases m12 with m6 | me
  · rw [decide_eq_true (show (m : Int) < 7 by omega)]
    have p64 : 2 ^ m ≤ 64 := Nat.pow_le_pow_right (by decide) (by omega : m ≤ 6)
    refine iteT ⟨_, rfl, m, rfl, rfl, by omega, _, rfl, ?_⟩
    rw [p2]
    refine ⟨RgOk.of_le (by decide) (Int.ofNat_le.mpr (Nat.le_trans p64 (by decide))) (by decide) (Int.natCast_nonneg _), fun G nG => ?_⟩
    have eR : rgV 0 ((2 ^ m : Nat) : Int) = (List.range (2 ^ m)).map fun n : Nat => V.int (n : Int) := by
      unfold rgV
      rw [Int.sub_zero, Int.toNat_natCast]
      refine List.map_congr_left fun n _ => ?_
      rw [Int.zero_add]
    rw [eR]
    obtain ⟨nums, hnums⟩ : ∃ nums, nums = List.range (2 ^ m) := ⟨_, rfl⟩
    rw [← hnums]
    have hn : ∀ n ∈ nums, n < 2 ^ m := fun n h => by rw [hnums] at h; exact List.mem_range.mp h
    have sG := same_new nG (.lst (nums.map fun n : Nat => V.int (n : Int)))
    have eG : (upd Hk G (.lst (nums.map fun n : Nat => V.int (n : Int)))) G = some (.lst (nums.map fun n : Nat => V.int (n : Int))) := upd_same
    have cG := ck.same sG
    have eoG := sG _ _ eok
    generalize upd Hk G (.lst (nums.map fun n : Nat => V.int (n : Int))) = HG at sG eG cG eoG ⊢
    refine ⟨_, rfl, G, rfl, ⟨_, SqL.of eG⟩, for_it (walk_list (K := K) (a := G) (xs := nums.map fun n : Nat => V.int (n : Int))) (fun j σ H' => ∃ (w1 : Option V), σ = [some (.ref a0), some (.ref T), some (.ref N), some (.int (0 + (i : Int))), some (.ref a), some (.int (m : Int)), some (.int (u : Int)), some (.ref O), some (.ref D), v7, some (.int (x : Int)), some (.ref G), va, w1] ∧ Same HG H') ?_ ?_ ?_ ?_⟩
    · exact ⟨_, rfl, Same.refl _⟩
    · rintro j σ H' _ ⟨_, _, sm⟩
      exact SqL.of (sm _ _ eG)
    · rintro j y σ Hx H4 hj ⟨w1, rfl, sm⟩ ⟨rfl, hy⟩
      rw [List.getElem?_map] at hy
      cases en : nums[j]? with
      | none => rw [en] at hy; cases hy
      | some n =>
        rw [en] at hy
        cases hy
        have hnm := hn n (List.mem_of_getElem? en)
        have cx := cG.same sm
        refine ⟨_, rfl, _, rfl, _, _, rfl, rfl, by omega, _, _, rfl, rfl, rfl, ?_⟩
        refine ⟨_, rfl, _, rfl, _, rfl, O, os, n, rfl, SqL.of (sm _ _ eoG), by omega, fun H5 pr kvs s5 np5 e5 hR => ?_⟩
        have cy := cx.same s5
        refine ⟨.ref a, pr, d, kvs, rowN os n, rfl, cy.h, hd20, e5, fun z hz => hR z (hdos z hz), fun H6 s6 => ?_⟩
        have e0 : ((n : Int)).toNat = n := Int.toNat_natCast n
        have eb : decide (V.int (Builtin.bitAnd ((x : Int) / 2 ^ ((n : Int)).toNat) 1) = V.int 1) = d.val (rowN os n) := by
          have h1 : x.testBit n = (decide (n < 2 ^ m) && d.val (rowN os n)) := hx n
          rw [decide_eq_true hnm, Bool.true_and] at h1
          rw [e0, ← h1, ← bit_of]
          exact decide_eq_decide.mpr ⟨fun e => by injection e, fun e => by rw [e]⟩
        refine ⟨rfl, _, rfl, iteF' (by rw [eb, decide_eq_true rfl]; rfl) ?_⟩
        exact ⟨_, rfl, (sm.trans s5).trans s6⟩
    rintro σ HE ⟨w1, rfl, sE⟩
    have cE := cG.same sE
    refine ⟨_, rfl, _, rfl, _, rfl, T, L, N, .ref a, d, ws, _, rfl, cE.t, by omega, cE.h, by omega, by omega, cE.n, hl, hw, mt, fun H' t' k' => ⟨_, rfl, iteF ?_⟩⟩
    exact ⟨_, _, _, _, _, _, _, _, _, _, _, rfl, (cE.keep k' t').n, t'.more (by omega)⟩
  · rw [decide_eq_false (show ¬ (m : Int) < 7 by omega)]
    refine iteF ?_
    refine ⟨40, rfl, by decide, by decide, fun D2 nD2 => lc_range (lo := 0) (fun j H' => ∃ ns2 : List Nat, H' D2 = some (.lst (ns2.map fun n : Nat => V.int (n : Int))) ∧ ns2.length = j ∧ (∀ n ∈ ns2, n < 4096) ∧ Tape H' T L (2000 + 10000 * (i : Int) + 2000 + 11 * j) ∧ Keep T Hk H') ?_ ?_ ?_⟩
    · exact ⟨[], upd_same, rfl, fun n h => (by cases h), (ck.t.same (same_new nD2 _)).more (by omega), Keep.of (same_new nD2 _)⟩
    · rintro j H' hj ⟨ns2, eD2, hln, hns, tt, kk⟩
      have hj40 : j < 40 := hj
      refine ⟨rfl, ?_⟩
      refine ⟨_, rfl, T, L, 4096, _, rfl, by decide, by decide, by omega, tt, fun H2' r2 r20 r21 t2' k2' => ?_⟩
      obtain ⟨n2, rfl⟩ : ∃ n2 : Nat, r2 = (n2 : Int) := ⟨r2.toNat, by omega⟩
      have eD3 := k2' _ _ eD2 (nT_of tt eD2)
      have nDT : D2 ≠ T := nT_of tt eD2
      refine ⟨_, eD3, by rw [List.length_map]; exact small1000 (by omega), ns2 ++ [n2], ?_, ?_, ?_, ?_, ?_⟩
      · rw [upd_same, List.map_append]
        rfl
      · rw [List.length_append, hln]
        rfl
      · intro n h
        rcases List.mem_append.mp h with h | h
        · exact hns n h
        · rw [List.mem_singleton.mp h]
          omega
      · refine (t2'.put nDT (fun z => ?_)).more (by omega)
        obtain ⟨nsx, sx, lx, ax, _⟩ := ck.t
        rw [z] at nD2
        rw [ax.c] at nD2
        cases nD2
      · intro b o h n
        rw [upd_ne (ne_of_none h nD2)]
        exact k2' _ _ (kk _ _ h n) n
    rintro Hm2 ⟨ns2, eD2, hln, hns, tt, kk⟩
    have cm2 := ck.keep kk tt
    have eo3 := kk _ _ eok (nT_of ck.t eok)
    refine ⟨hsm 2 (by decide), fun E3 nE3 => ?_⟩
    have s3 := same_new nE3 (.lst [.int 0, .int 4095])
    have e3 : (upd Hm2 E3 (.lst [.int 0, .int 4095])) E3 = some (.lst [.int 0, .int 4095]) := upd_same
    have cm3 := cm2.same s3
    have eD3 := s3 _ _ eD2
    have eo4 := s3 _ _ eo3
    generalize upd Hm2 E3 (.lst [.int 0, .int 4095]) = Hn at s3 e3 cm3 eD3 eo4 ⊢
    refine ⟨D2, E3, _, _, rfl, rfl, eD3, e3, by rw [List.length_map]; exact hsm _ (by rw [hln]; decide), fun G nG => ?_⟩
    obtain ⟨nums, hnums⟩ : ∃ nums, nums = ns2 ++ [0, 4095] := ⟨_, rfl⟩
    have eR : (ns2.map fun n : Nat => V.int (n : Int)) ++ [.int 0, .int 4095] = nums.map fun n : Nat => V.int (n : Int) := by
      rw [hnums, List.map_append]
      rfl
    rw [eR]
    have p4 : 2 ^ m = 4096 := by rw [me]
    have hn : ∀ n ∈ nums, n < 2 ^ m := fun n h => by
      rw [hnums] at h
      rcases List.mem_append.mp h with h | h
      · have := hns n h
        omega
      · rcases List.mem_cons.mp h with h | h
        · omega
        · rw [List.mem_singleton.mp h]
          omega
    have sG := same_new nG (.lst (nums.map fun n : Nat => V.int (n : Int)))
    have eG : (upd Hn G (.lst (nums.map fun n : Nat => V.int (n : Int)))) G = some (.lst (nums.map fun n : Nat => V.int (n : Int))) := upd_same
    have cG := cm3.same sG
    have eoG := sG _ _ eo4
    generalize upd Hn G (.lst (nums.map fun n : Nat => V.int (n : Int))) = HG at sG eG cG eoG ⊢
    refine ⟨_, rfl, G, rfl, ⟨_, SqL.of eG⟩, for_it (walk_list (K := K) (a := G) (xs := nums.map fun n : Nat => V.int (n : Int))) (fun j σ H' => ∃ (w1 : Option V), σ = [some (.ref a0), some (.ref T), some (.ref N), some (.int (0 + (i : Int))), some (.ref a), some (.int (m : Int)), some (.int (u : Int)), some (.ref O), some (.ref D), v7, some (.int (x : Int)), some (.ref G), va, w1] ∧ Same HG H') ?_ ?_ ?_ ?_⟩
    · exact ⟨_, rfl, Same.refl _⟩
    · rintro j σ H' _ ⟨_, _, sm⟩
      exact SqL.of (sm _ _ eG)
    · rintro j y σ Hx H4 hj ⟨w1, rfl, sm⟩ ⟨rfl, hy⟩
      rw [List.getElem?_map] at hy
      cases en : nums[j]? with
      | none => rw [en] at hy; cases hy
      | some n =>
        rw [en] at hy
        cases hy
        have hnm := hn n (List.mem_of_getElem? en)
        have cx := cG.same sm
        refine ⟨_, rfl, _, rfl, _, _, rfl, rfl, by omega, _, _, rfl, rfl, rfl, ?_⟩
        refine ⟨_, rfl, _, rfl, _, rfl, O, os, n, rfl, SqL.of (sm _ _ eoG), by omega, fun H5 pr kvs s5 np5 e5 hR => ?_⟩
        have cy := cx.same s5
        refine ⟨.ref a, pr, d, kvs, rowN os n, rfl, cy.h, hd20, e5, fun z hz => hR z (hdos z hz), fun H6 s6 => ?_⟩
        have e0 : ((n : Int)).toNat = n := Int.toNat_natCast n
        have eb : decide (V.int (Builtin.bitAnd ((x : Int) / 2 ^ ((n : Int)).toNat) 1) = V.int 1) = d.val (rowN os n) := by
          have h1 : x.testBit n = (decide (n < 2 ^ m) && d.val (rowN os n)) := hx n
          rw [decide_eq_true hnm, Bool.true_and] at h1
          rw [e0, ← h1, ← bit_of]
          exact decide_eq_decide.mpr ⟨fun e => by injection e, fun e => by rw [e]⟩
        refine ⟨rfl, _, rfl, iteF' (by rw [eb, decide_eq_true rfl]; rfl) ?_⟩
        exact ⟨_, rfl, (sm.trans s5).trans s6⟩
    rintro σ HE ⟨w1, rfl, sE⟩
    have cE := cG.same sE
    refine ⟨_, rfl, _, rfl, _, rfl, T, L, N, .ref a, d, ws, _, rfl, cE.t, by omega, cE.h, by omega, by omega, cE.n, hl, hw, mt, fun H' t' k' => ⟨_, rfl, iteF ?_⟩⟩
    exact ⟨_, _, _, _, _, _, _, _, _, _, _, rfl, (cE.keep k' t').n, t'.more (by omega)⟩
end
end My

set_option maxRecDepth 100000
set_option maxHeartbeats 0
namespace My
open PySem PySem.Spec PyProof.Rows L2 XE
def dd (x : Str) (i : Nat) : He.DefD := ⟨(x, none), x, x, defArgs (top i), defBody (top i), defScope (top i), [], []⟩
def iSt (i : Nat) : Stmt := inClass (top i) 0
def di (x q : Str) (i : Nat) : He.DefD := ⟨(x, some "__init__"), "__init__", q, defArgs (iSt i), defBody (iSt i), defScope (iSt i), [], []⟩
def mI (K : PySem.W.Frag) (x : Str) : Addr := He.ma K (He.ga K x) "__init__"
def errB (K : PySem.W.Frag) (x : Str) (fl : Fl) (bm : List Value) (nw : String) : Bool :=
  PySem.W.excInitIn K (He.ga K x) bm nw && (PySem.W.excOver K (He.ga K x) bm && (decide (PySem.W.findIn K (.ref (He.ga K x)) "__init__" = some (some (.ref (mI K x)))) && (PySem.W.isFn K (.ref (mI K x)) &&
  (decide (PySem.W.findIn K (.ref (He.ga K x)) "__setattr__" = some (some (.builtin "object.__setattr__"))) && (decide (PySem.W.takerIn K (He.ga K x) fl.s = some none) && (PySem.W.hasDictIn K (He.ga K x) && (decide (PySem.W.findIn K (.ref (He.ga K x)) fl.s = some none) &&
  (decide (PySem.W.findIn K (.ref (He.ga K x)) "__getattribute__" = some (some (.builtin "BaseException.__getattribute__"))) && (decide (PySem.W.findIn K (.ref (He.ga K x)) "__getattr__" = some none) && (decide (PySem.W.subIn K (.ref (He.ga K x)) (.type "BaseException") = some true) && (PySem.W.keepIn K (.ref (He.ga K x)) &&
  (decide (PySem.W.findIn K (.ref (He.ga K x)) "__class__" = some (some (.builtin "object.__class__"))) && (decide (PySem.W.specialIn K (.builtin "object.__class__") "__get__" = some (some (.builtin "getset_descriptor.__get__"))) &&
  (decide (PySem.W.takesIn K (.builtin "object.__class__") = some true) && (decide (PySem.W.mroIn K (He.ga K x) (.type "object") = some true) && (decide (PySem.W.typeIn K (.ref (He.ga K x)) = some (.type "type")) && decide (PySem.W.exmOne K (.ref (He.ga K x)) (.ref (He.ga K x)) = some true)))))))))))))))))
theorem init_of {K : PySem.W.Frag} {f : Addr} {fd : FuncData} {qual : Str} {st : Stmt} {fl : Fl} {p1 p2 q1 q2 q3 q4 : Pos} (F : FunD K "__init__" qual (defArgs st) (defBody st) (defScope st) [] [] f fd) (e1 : defArgs st = iA fl p1 p2) (e2 : defBody st = iB fl q1 q2 q3 q4) (e3 : defScope st = iS fl) :
    ∃ (qual : Str) (oc : Value) (od : Option Addr) (kv doc pm : Value) (an : Option Addr) (cdv ct : Value) (osl : Array (Option Value)) (p1 p2 q1 q2 q3 q4 : Pos),
      K.lookup f = some ⟨oc, od, .func (PySem.W.fnOf "__init__" qual (iA fl p1 p2) (iB fl q1 q2 q3 q4) (iS fl) .none kv doc pm an cdv ct), osl⟩ ∧ PySem.W.codeIn K cdv qual = true := by
  obtain ⟨oc, od, dV, kV, doc, pm, an, cdv, ct, osl, rfl, lk, hcd, hD, hK⟩ := F.ex
  rcases hD with ⟨_, rfl⟩ | ⟨e, _⟩
  · rw [e1, e2, e3] at lk
    exact ⟨qual, oc, od, kV, doc, pm, an, cdv, ct, osl, p1, p2, q1, q2, q3, q4, lk, hcd⟩
  · exact absurd rfl e
theorem both {a b : Bool} (h : (a && b) = true) : a = true ∧ b = true := Bool.and_eq_true_iff.mp h
theorem err_of {K : PySem.W.Frag} {x : Str} {fl : Fl} {bm : List Value} {nw : String} (five : Five bm nw) (h0 : errB K x fl bm nw = true) (ini : ∃ (qual : Str) (oc : Value) (od : Option Addr) (kv doc pm : Value) (an : Option Addr) (cdv ct : Value) (osl : Array (Option Value)) (p1 p2 q1 q2 q3 q4 : Pos),
      K.lookup (mI K x) = some ⟨oc, od, .func (PySem.W.fnOf "__init__" qual (iA fl p1 p2) (iB fl q1 q2 q3 q4) (iS fl) .none kv doc pm an cdv ct), osl⟩ ∧ PySem.W.codeIn K cdv qual = true) :
    Err K (He.ga K x) (mI K x) fl bm nw ∧ PySem.W.typeIn K (.ref (He.ga K x)) = some (.type "type") ∧ PySem.W.exmOne K (.ref (He.ga K x)) (.ref (He.ga K x)) = some true := by
  unfold errB at h0
  obtain ⟨h1, h0⟩ := both h0
  obtain ⟨h2, h0⟩ := both h0
  obtain ⟨h3, h0⟩ := both h0
  obtain ⟨h4, h0⟩ := both h0
  obtain ⟨h5, h0⟩ := both h0
  obtain ⟨h6, h0⟩ := both h0
  obtain ⟨h7, h0⟩ := both h0
  obtain ⟨h8, h0⟩ := both h0
  obtain ⟨h9, h0⟩ := both h0
  obtain ⟨h10, h0⟩ := both h0
  obtain ⟨h11, h0⟩ := both h0
  obtain ⟨h12, h0⟩ := both h0
  obtain ⟨h13, h0⟩ := both h0
  obtain ⟨h14, h0⟩ := both h0
  obtain ⟨h15, h0⟩ := both h0
  obtain ⟨h16, h0⟩ := both h0
  obtain ⟨h17, h18⟩ := both h0
  exact ⟨⟨five, h1, h2, of_decide_eq_true h3, h4, of_decide_eq_true h5, of_decide_eq_true h6, h7, of_decide_eq_true h8, of_decide_eq_true h9, of_decide_eq_true h10, of_decide_eq_true h11, h12, of_decide_eq_true h13, of_decide_eq_true h14, of_decide_eq_true h15, of_decide_eq_true h16, ini⟩, of_decide_eq_true h17, of_decide_eq_true h18⟩
def bm_NoName : List Value := [.type "KeyError", .type "LookupError", .type "Exception", .type "BaseException", .type "object"]
def fn : List He.DefD := [di "NoName" "NoName.__init__" 1, dd "refuse_lacking" 3, dd "parts_of" 5, dd "names_of" 6, dd "value_of" 7, dd "value_of_parts" 8, dd "column" 10, dd "table" 11, dd "same" 12, dd "_law_tape" 14, dd "_law_draw" 15, dd "_law_words" 16, dd "_law_saying" 17, dd "_law_value" 18, dd "_law_row" 19, dd "_law_told" 20, dd "_law_alike" 21, dd "_law_but_one" 22, dd "_law_bare_right" 23, dd "_law_sames_right" 24, dd "law" 25]
def fa : List He.Fa := [.glo "NoName", .glo "refuse_lacking", .glo "parts_of", .glo "names_of", .glo "value_of", .glo "value_of_parts", .glo "column", .glo "table", .glo "same", .glo "_law_tape", .glo "_law_draw", .glo "_law_words", .glo "_law_saying", .glo "_law_value", .glo "_law_row", .glo "_law_told", .glo "_law_alike", .glo "_law_but_one", .glo "_law_bare_right", .glo "_law_sames_right", .glo "law", .free "len", .free "range", .free "sorted", .free "min", .free "int", .free "set", .free "dict", .free "isinstance", .free "bool", .free "list", .free "enumerate"]

def exK (K : PySem.W.Frag) : Bool := errB K "NoName" .name bm_NoName "LookupError.__new__"
def ts : List He.Tab := []
abbrev R : PySem.W.OpenRow := PySem.W.OpenLaw.row PySem.Challenge.rw_middlesay_k03_tables_of_truth
def hookM : PySem.W.Hook := He.hookX 5 fa fn ts [] exK
def ob (s : PySem.W.SharedT) : hookM.α := He.obsX 5 fa fn ts [] exK (HandSHeadRun.getT s)
theorem ob_eq (s : PySem.W.SharedT) : ob s = hookM.obs s.abs := He.obsX_eq (fun a => HandSHeadRun.getT_eq s a)
abbrev loose : List Str := ["NoName", "refuse_lacking", "parts_of", "names_of", "value_of", "value_of_parts", "column", "table", "same", "_law_tape", "_law_draw", "_law_words", "_law_saying", "_law_value", "_law_row", "_law_told", "_law_alike", "_law_but_one", "_law_bare_right", "_law_sames_right"]
theorem run (w : World) : HandSHeadRun.RunEq R (PySem.W.view R.prog [25]) hookM ob 4000 loose w := by
  intro os
  kernel_rfl
end My

set_option maxRecDepth 100000
set_option maxHeartbeats 0
namespace My
open PySem PySem.Spec PyProof.Rows L2 XE

theorem facts {P : Program} {w : World} {K : PySem.W.Frag} {h : Heap} {mg : Str → Option Value} {f : Addr} (X : K.In h) (G : h.Ns mainGlobals mg) (hfa : mg ("law" : Str) = some (.ref f)) (c : He.SaysX fa fn ts [] exK w h K) :
    ∃ fd : FuncData, (∀ (s : Shared) (v : Value), BindsTo s fd ⟨[v], []⟩ [("_law_script", v)]) ∧ ∀ base : Heap, K.In base → base.Ns mainGlobals mg → FnOk P w K mg base CX0 39 f fd ["_law_script"] (spLaw K) := by
  have cd : He.SaysD fa fn K := c.t.d
  have cm : exK K = true := c.more
  have g : ∀ {x : Str} (i : Nat), fa[i]? = some (.glo x) → mg x = some (.ref (He.ga K x)) := fun i e => He.glo_ok X G (cd.fact i e)
  have fr : ∀ {x : Str} (i : Nat), fa[i]? = some (.free x) → mg x = none := fun i e => He.free_ok X G (cd.fact i e)
  obtain ⟨dI_NoName, FI_NoName⟩ := cd.def_ 0 (d := di "NoName" "NoName.__init__" 1) rfl
  have g_NoName := g (x := "NoName") 0 rfl
  obtain ⟨d_refuse_lacking, F_refuse_lacking⟩ := cd.def_ 1 (d := dd "refuse_lacking" 3) rfl
  have b_refuse_lacking : Binds K d_refuse_lacking ["names", "known"] [] := F_refuse_lacking.bindsN fun _ _ _ _ _ _ us hl => match us, hl with | [_, _], _ => rfl
  have g_refuse_lacking := g (x := "refuse_lacking") 1 rfl
  obtain ⟨d_parts_of, F_parts_of⟩ := cd.def_ 2 (d := dd "parts_of" 5) rfl
  have b_parts_of : Binds K d_parts_of ["saying"] [] := F_parts_of.bindsN fun _ _ _ _ _ _ us hl => match us, hl with | [_], _ => rfl
  have g_parts_of := g (x := "parts_of") 2 rfl
  obtain ⟨d_names_of, F_names_of⟩ := cd.def_ 3 (d := dd "names_of" 6) rfl
  have b_names_of : Binds K d_names_of ["saying"] [] := F_names_of.bindsN fun _ _ _ _ _ _ us hl => match us, hl with | [_], _ => rfl
  have g_names_of := g (x := "names_of") 3 rfl
  obtain ⟨d_value_of, F_value_of⟩ := cd.def_ 4 (d := dd "value_of" 7) rfl
  have b_value_of : Binds K d_value_of ["saying", "values", "full"] [] := F_value_of.bindsN fun _ _ _ _ _ _ us hl => match us, hl with | [_, _, _], _ => rfl
  have g_value_of := g (x := "value_of") 4 rfl
  obtain ⟨d_value_of_parts, F_value_of_parts⟩ := cd.def_ 5 (d := dd "value_of_parts" 8) rfl
  have b_value_of_parts : Binds K d_value_of_parts ["kind", "parts", "full"] [] := F_value_of_parts.bindsN fun _ _ _ _ _ _ us hl => match us, hl with | [_, _, _], _ => rfl
  have g_value_of_parts := g (x := "value_of_parts") 5 rfl
  obtain ⟨d_column, F_column⟩ := cd.def_ 6 (d := dd "column" 10) rfl
  have b_column : Binds K d_column ["place", "full"] [] := F_column.bindsN fun _ _ _ _ _ _ us hl => match us, hl with | [_, _], _ => rfl
  have g_column := g (x := "column") 6 rfl
  obtain ⟨d_table, F_table⟩ := cd.def_ 7 (d := dd "table" 11) rfl
  have b_table : Binds K d_table ["saying", "names"] [] := F_table.bindsN fun _ _ _ _ _ _ us hl => match us, hl with | [_, _], _ => rfl
  have g_table := g (x := "table") 7 rfl
  obtain ⟨d_same, F_same⟩ := cd.def_ 8 (d := dd "same" 12) rfl
  have b_same : Binds K d_same ["saying", "other"] [] := F_same.bindsN fun _ _ _ _ _ _ us hl => match us, hl with | [_, _], _ => rfl
  have g_same := g (x := "same") 8 rfl
  obtain ⟨d__law_tape, F__law_tape⟩ := cd.def_ 9 (d := dd "_law_tape" 14) rfl
  have b__law_tape : Binds K d__law_tape ["_law_script"] [] := F__law_tape.bindsN fun _ _ _ _ _ _ us hl => match us, hl with | [_], _ => rfl
  have g__law_tape := g (x := "_law_tape") 9 rfl
  obtain ⟨d__law_draw, F__law_draw⟩ := cd.def_ 10 (d := dd "_law_draw" 15) rfl
  have b__law_draw : Binds K d__law_draw ["_law_tape_here", "_law_many"] [] := F__law_draw.bindsN fun _ _ _ _ _ _ us hl => match us, hl with | [_, _], _ => rfl
  have g__law_draw := g (x := "_law_draw") 10 rfl
  obtain ⟨d__law_words, F__law_words⟩ := cd.def_ 11 (d := dd "_law_words" 16) rfl
  have b__law_words : Binds K d__law_words ["_law_tape_here", "_law_many"] [] := F__law_words.bindsN fun _ _ _ _ _ _ us hl => match us, hl with | [_, _], _ => rfl
  have g__law_words := g (x := "_law_words") 11 rfl
  obtain ⟨d__law_saying, F__law_saying⟩ := cd.def_ 12 (d := dd "_law_saying" 17) rfl
  have b__law_saying : Binds K d__law_saying ["_law_tape_here", "_law_names", "_law_left", "_law_deep"] [] := F__law_saying.bindsN fun _ _ _ _ _ _ us hl => match us, hl with | [_, _, _, _], _ => rfl
  have g__law_saying := g (x := "_law_saying") 12 rfl
  obtain ⟨d__law_value, F__law_value⟩ := cd.def_ 13 (d := dd "_law_value" 18) rfl
  have b__law_value : Binds K d__law_value ["_law_saying_here", "_law_row_here"] [] := F__law_value.bindsN fun _ _ _ _ _ _ us hl => match us, hl with | [_, _], _ => rfl
  have g__law_value := g (x := "_law_value") 13 rfl
  obtain ⟨d__law_row, F__law_row⟩ := cd.def_ 14 (d := dd "_law_row" 19) rfl
  have b__law_row : Binds K d__law_row ["_law_names", "_law_number"] [] := F__law_row.bindsN fun _ _ _ _ _ _ us hl => match us, hl with | [_, _], _ => rfl
  have g__law_row := g (x := "_law_row") 14 rfl
  obtain ⟨d__law_told, F__law_told⟩ := cd.def_ 15 (d := dd "_law_told" 20) rfl
  have b__law_told : Binds K d__law_told ["_law_saying_here", "_law_names"] [] := F__law_told.bindsN fun _ _ _ _ _ _ us hl => match us, hl with | [_, _], _ => rfl
  have g__law_told := g (x := "_law_told") 15 rfl
  obtain ⟨d__law_alike, F__law_alike⟩ := cd.def_ 16 (d := dd "_law_alike" 21) rfl
  have b__law_alike : Binds K d__law_alike ["_law_one", "_law_other", "_law_names"] [] := F__law_alike.bindsN fun _ _ _ _ _ _ us hl => match us, hl with | [_, _, _], _ => rfl
  have g__law_alike := g (x := "_law_alike") 16 rfl
  obtain ⟨d__law_but_one, F__law_but_one⟩ := cd.def_ 17 (d := dd "_law_but_one" 22) rfl
  have b__law_but_one : Binds K d__law_but_one ["_law_tape_here", "_law_saying_here", "_law_names"] [] := F__law_but_one.bindsN fun _ _ _ _ _ _ us hl => match us, hl with | [_, _, _], _ => rfl
  have g__law_but_one := g (x := "_law_but_one") 17 rfl
  obtain ⟨d__law_bare_right, F__law_bare_right⟩ := cd.def_ 18 (d := dd "_law_bare_right" 23) rfl
  have b__law_bare_right : Binds K d__law_bare_right ["_law_tape_here"] [] := F__law_bare_right.bindsN fun _ _ _ _ _ _ us hl => match us, hl with | [_], _ => rfl
  have g__law_bare_right := g (x := "_law_bare_right") 18 rfl
  obtain ⟨d__law_sames_right, F__law_sames_right⟩ := cd.def_ 19 (d := dd "_law_sames_right" 24) rfl
  have b__law_sames_right : Binds K d__law_sames_right ["_law_tape_here", "_law_saying_here", "_law_names"] [] := F__law_sames_right.bindsN fun _ _ _ _ _ _ us hl => match us, hl with | [_, _, _], _ => rfl
  have g__law_sames_right := g (x := "_law_sames_right") 19 rfl
  obtain ⟨fd, F_law⟩ := cd.def_ 20 (d := dd "law" 25) rfl
  have e := hfa.symm.trans (g (x := "law") 20 rfl)
  cases e
  have b_law := FunD.bindsA (ps := ["_law_script"]) F_law fun _ _ _ _ _ _ us hl => match us, hl with | [_], _ => rfl
  have m_len := fr (x := "len") 21 rfl
  have m_range := fr (x := "range") 22 rfl
  have m_sorted := fr (x := "sorted") 23 rfl
  have m_min := fr (x := "min") 24 rfl
  have m_int := fr (x := "int") 25 rfl
  have m_set := fr (x := "set") 26 rfl
  have m_dict := fr (x := "dict") 27 rfl
  have m_isinstance := fr (x := "isinstance") 28 rfl
  have m_bool := fr (x := "bool") 29 rfl
  have m_list := fr (x := "list") 30 rfl
  have m_enumerate := fr (x := "enumerate") 31 rfl
  have e_NoName : _ = true := cm
  obtain ⟨err_NoName, ty_NoName, own_NoName⟩ := err_of (x := "NoName") (fl := .name) .key e_NoName (init_of (st := iSt 1) FI_NoName rfl rfl rfl)
  refine ⟨fd, fun s v => b_law s [v] rfl, fun base _ _ => ?_⟩
  have OX : FnOk P w K mg base (L2.CX P w) 2 (He.ga K "refuse_lacking") d_refuse_lacking ["names", "known"] (spRefuse K (He.ga K "NoName")) := ok_refuse F_refuse_lacking { err := err_NoName, tyC := ty_NoName, gC := g_NoName }
  have OP : FnOk P w K mg base CX0 1 (He.ga K "parts_of") d_parts_of ["saying"] (spParts K) := ok_parts (k := 0) F_parts_of
  have ON : FnOk P w K mg base CX0 2 (He.ga K "names_of") d_names_of ["saying"] spNames := ok_names F_names_of OP { gP := g_parts_of, kP := F_parts_of.kp, bP := b_parts_of, msorted := m_sorted }
  have OVP : FnOk P w K mg base CX0 1 (He.ga K "value_of_parts") d_value_of_parts ["kind", "parts", "full"] spVParts := ok_vparts (k := 0) F_value_of_parts
  have OV : FnOk P w K mg base CX0 21 (He.ga K "value_of") d_value_of ["saying", "values", "full"] (spValue 20) := all_value F_value_of OP OVP { gP := g_parts_of, kP := F_parts_of.kp, bP := b_parts_of, gV := g_value_of, kV := F_value_of.kp, bV := b_value_of, gW := g_value_of_parts, kW := F_value_of_parts.kp, bW := b_value_of_parts } 20
  have OC : FnOk P w K mg base CX0 1 (He.ga K "column") d_column ["place", "full"] spCol := ok_col (k := 0) F_column
  have TB : Tb mg K (He.ga K "names_of") (He.ga K "value_of") (He.ga K "refuse_lacking") (He.ga K "column") (He.ga K "table") d_names_of d_value_of d_refuse_lacking d_column d_table := { gN := g_names_of, kN := F_names_of.kp, bN := b_names_of, gV := g_value_of, kV := F_value_of.kp, bV := b_value_of, gX := g_refuse_lacking, kX := F_refuse_lacking.kp, bX := b_refuse_lacking, gC := g_column, kC := F_column.kp, bC := b_column, gT := g_table, kT := F_table.kp, bT := b_table, mlen := m_len, menumerate := m_enumerate, msorted := m_sorted, mset := m_set }
  have OTb : FnOk P w K mg base (L2.CX P w) 22 (He.ga K "table") d_table ["saying", "names"] (spTable K (He.ga K "NoName")) := ok_table F_table ON OV OX OC TB
  have OTc : FnOk P w K mg base CX0 22 (He.ga K "table") d_table ["saying", "names"] (fun vs H Q _ => spTable K (He.ga K "NoName") vs H Q fun _ _ _ => False) := fnok_calm OTb
  have OS : FnOk P w K mg base CX0 23 (He.ga K "same") d_same ["saying", "other"] spSame := ok_same F_same ON OTc TB
  have OT : FnOk P w K mg base CX0 1 (He.ga K "_law_tape") d__law_tape ["_law_script"] (spTape K) := ok_tape (k := 0) F__law_tape
  have OD : FnOk P w K mg base CX0 11 (He.ga K "_law_draw") d__law_draw ["_law_tape_here", "_law_many"] (spDraw 11) := all_draw F__law_draw b__law_draw g__law_draw m_len 11 (by decide)
  have OW : FnOk P w K mg base CX0 12 (He.ga K "_law_words") d__law_words ["_law_tape_here", "_law_many"] (spWords K) := ok_words (k := 11) (by decide) F__law_words OD b__law_draw g__law_draw F__law_draw.kp m_range
  have OSy : FnOk P w K mg base CX0 37 (He.ga K "_law_saying") d__law_saying ["_law_tape_here", "_law_names", "_law_left", "_law_deep"] (spSay 26) :=
    all_say F__law_saying OD { gD := g__law_draw, kD := F__law_draw.kp, bD := b__law_draw, gS := g__law_saying, kS := F__law_saying.kp, bS := b__law_saying, ml := m_len, mmin := m_min, mint := m_int } 26
  have OLV : FnOk P w K mg base CX0 21 (He.ga K "_law_value") d__law_value ["_law_saying_here", "_law_row_here"] (spLV 20) := all_lvalue F__law_value { gV := g__law_value, kV := F__law_value.kp, bV := b__law_value } 20
  have LR : Lr mg K (He.ga K "_law_row") (He.ga K "_law_value") d__law_row d__law_value := { mdict := m_dict, mrange := m_range, mlen := m_len, gR := g__law_row, kR := F__law_row.kp, bR := b__law_row, gV := g__law_value, kV := F__law_value.kp, bV := b__law_value }
  have OR : FnOk P w K mg base CX0 1 (He.ga K "_law_row") d__law_row ["_law_names", "_law_number"] (spLR K) := ok_lrow (k := 0) F__law_row LR
  have OTo : FnOk P w K mg base CX0 23 (He.ga K "_law_told") d__law_told ["_law_saying_here", "_law_names"] (spTold K) := ok_told F__law_told OTb { gH := g_table, kH := F_table.kp, bH := b_table, gE := g_NoName, err := err_NoName, own := own_NoName }
  have OA : FnOk P w K mg base CX0 22 (He.ga K "_law_alike") d__law_alike ["_law_one", "_law_other", "_law_names"] (spAlike K) := ok_alike F__law_alike OR OLV LR
  have BO : Bo P w K mg base (He.ga K "NoName") (He.ga K "_law_draw") (He.ga K "_law_row") (He.ga K "_law_value") (He.ga K "table") (He.ga K "_law_saying") (He.ga K "same") d__law_draw d__law_row d__law_value d_table d__law_saying d_same := { GD := OD, GR := OR, GV := OLV, GT := OTc, GG := OSy, GS := OS, gD := g__law_draw, kD := F__law_draw.kp, bD := b__law_draw, gR := g__law_row, kR := F__law_row.kp, bR := b__law_row, gV := g__law_value, kV := F__law_value.kp, bV := b__law_value, gT := g_table, kT := F_table.kp, bT := b_table, gG := g__law_saying, kG := F__law_saying.kp, bG := b__law_saying, gS := g_same, kS := F_same.kp, bS := b_same, mlen := m_len, mint := m_int }
  have OBo : FnOk P w K mg base CX0 22 (He.ga K "_law_but_one") d__law_but_one ["_law_tape_here", "_law_saying_here", "_law_names"] spBo := ok_bo F__law_but_one BO
  have OBr : FnOk P w K mg base CX0 23 (He.ga K "_law_bare_right") d__law_bare_right ["_law_tape_here"] spBr := ok_br F__law_bare_right BO
  have OSr : FnOk P w K mg base CX0 38 (He.ga K "_law_sames_right") d__law_sames_right ["_law_tape_here", "_law_saying_here", "_law_names"] spSr := ok_sr F__law_sames_right { GD := OD, GB := OBo, GS := OS, GG := OSy, GA := OA, gD := g__law_draw, kD := F__law_draw.kp, bD := b__law_draw, gB := g__law_but_one, kB := F__law_but_one.kp, bB := b__law_but_one, gS := g_same, kS := F_same.kp, bS := b_same, gG := g__law_saying, kG := F__law_saying.kp, bG := b__law_saying, gA := g__law_alike, kA := F__law_alike.kp, bA := b__law_alike, misinstance := m_isinstance, mbool := m_bool }
  exact ok_law F_law { GT := OT, gT := g__law_tape, kT := F__law_tape.kp, bT := b__law_tape, GW := OW, gW := g__law_words, kW := F__law_words.kp, bW := b__law_words, GB := OBr, gB := g__law_bare_right, kB := F__law_bare_right.kp, bB := b__law_bare_right, GD := OD, gD := g__law_draw, kD := F__law_draw.kp, bD := b__law_draw, GS := OSy, gS := g__law_saying, kS := F__law_saying.kp, bS := b__law_saying, GP := ON, gP := g_names_of, kP := F_names_of.kp, bP := b_names_of, GO := OTo, gO := g__law_told, kO := F__law_told.kp, bO := b__law_told, GV := OLV, gV := g__law_value, kV := F__law_value.kp, bV := b__law_value, GR := OR, gR := g__law_row, kR := F__law_row.kp, bR := b__law_row, GX := OSr, gX := g__law_sames_right, kX := F__law_sames_right.kp, bX := b__law_sames_right, mrange := m_range, mlist := m_list, misinstance := m_isinstance, mbool := m_bool, mint := m_int }
end My
open PySem PySem.W PySem.Calls PyProof.Rows
theorem PySem.Challenge.cw_middlesay_k03_tables_of_truth_holds : PySem.Challenge.rw_middlesay_k03_tables_of_truth.Holds := by
  w_on; o_law
  refine HandSHeadRun.head_any (r := OpenLaw.row PySem.Challenge.rw_middlesay_k03_tables_of_truth) (q := view (OpenLaw.row PySem.Challenge.rw_middlesay_k03_tables_of_truth).prog [25]) (H := My.hookM) (ob := My.ob) (M := 4000) (loose := My.loose)
    (d := HandSHeadRun.topDef (OpenLaw.row PySem.Challenge.rw_middlesay_k03_tables_of_truth).prog 25) (kwd := []) My.ob_eq
    (by kernel_rfl) (fun s => by kernel_rfl) My.run (by kernel_rfl) (by kernel_rfl) (by kernel_rfl) (by rfl) (by first | assumption | decide +kernel) (by decide +kernel) ⟨rfl, rfl, rfl, rfl, rfl, by decide +kernel⟩ ?hw ?hc
  case hw => w_witness2
  case hc =>
    refine L2.walk_ofE (l := PySem.Challenge.rw_middlesay_k03_tables_of_truth) (n := 63) (k := 39) (x := "_law_script") (CX := L2.CX0) rfl (by decide) (by kernel_rfl) ⟨rfl, by decide, by decide⟩ ?F (fun _ _ _ _ z => z)
    intro w mg fa h Y G hmg0
    obtain ⟨K, KX, c⟩ := Y
    have hmg : mg ("law" : PySem.Str) = some (.ref fa) := by
      have e : (HandSHeadRun.topDef (OpenLaw.row PySem.Challenge.rw_middlesay_k03_tables_of_truth).prog 25).name = ("law" : PySem.Str) := by kernel_rfl
      rw [← e]
      exact hmg0
    obtain ⟨fd, hb, hF⟩ := My.facts (P := (PySem.Challenge.rw_middlesay_k03_tables_of_truth).prog) (w := w) KX G hmg c
    exact ⟨K, fd, My.spLaw K, KX, hb, fun H a ns hl _ hS => ⟨a, ns, rfl, hS, fun _ => rfl⟩, hF⟩
