import PyProof.Rows.All
import Wide.All
import OpenK.AllK
import Wide.FinOn
import HandS.ForMost
import HandS.Defaults
import HandS.Flow
import HandS.Wide
import HandS.Walk
import KE.KExcInit
import KE.KExcIs
import KE.KIsAll
import HandS.Exc
import HandS.ExcInit
import HandS.ExcValue
import HandS.IsInst
import HandS.DeepEq
import KE.KStateDown
import HandS.Head0
import HandS.Head1
import HandS.Head2
import HandS.HeadEnd
import HandS.HeadHook1
import HandS.HeadHook2
import PySem.Challenge.RW_middlesay_k04_refusals_by_their_kinds
set_option Elab.async false
set_option linter.all false
set_option maxRecDepth 100000
set_option maxHeartbeats 4000000
namespace My
open PySem PySem.Spec PyProof.Rows L2
def top (i : Nat) : Stmt := PySem.Challenge.pw_middlesay_k04_refusals_by_their_kinds.main.body.getD i (.Pass ⟨0, 0, 0, 0⟩)
abbrev FnP (K : PySem.W.Frag) (x : Str) (st : Stmt) (f : Addr) (fd : FuncData) : Prop := FunD K x x (defArgs st) (defBody st) (defScope st) [] [] f fd
abbrev sTape : Stmt := top 15
abbrev sDraw : Stmt := top 16
/-! ### the tape -/
abbrev kC : Key := Sum.inr ("cells" : Str)
abbrev kS : Key := Sum.inr ("spot" : Str)
abbrev kL : Key := Sum.inr ("left" : Str)
def tkv (L : Addr) (s l : Int) : List (Key × V) := [(kC, .ref L), (kS, .int s), (kL, .int l)]
theorem tkv_C (L : Addr) (s l : Int) : valV (tkv L s l) kC = some (.ref L) := rfl
theorem tkv_S (L : Addr) (s l : Int) : valV (tkv L s l) kS = some (.int s) := rfl
theorem tkv_L (L : Addr) (s l : Int) : valV (tkv L s l) kL = some (.int l) := rfl
theorem tkv_putS (L : Addr) (s l v : Int) : putK (tkv L s l) kS (.int v) = tkv L v l := rfl
theorem tkv_putL (L : Addr) (s l v : Int) : putK (tkv L s l) kL (.int v) = tkv L s v := rfl
theorem tkv_len (L : Addr) (s l : Int) : (tkv L s l).length < sizeLine := by
  show 3 < sizeLine
  decide
/-- at T a tape: cells at L, at most B drawn -/
structure TapeAt (H : Hp) (T L : Addr) (ns : List Int) (s l : Int) : Prop where
  d : H T = some (.dK (tkv L s l))
  c : H L = some (.lst (ns.map V.int))
def Tape (H : Hp) (T L : Addr) (B : Int) : Prop := ∃ (ns : List Int) (s l : Int), TapeAt H T L ns s l ∧ 0 ≤ s ∧ s ≤ B ∧ ns.length ≤ 63
/-- all but what stands at T is as it was -/
def Keep (T : Addr) (H H' : Hp) : Prop := ∀ b o, H b = some o → b ≠ T → H' b = some o
theorem Keep.trans {T : Addr} {H H1 H2 : Hp} (a : Keep T H H1) (b : Keep T H1 H2) : Keep T H H2 := fun c o h n => b c o (a c o h n) n
theorem Keep.of {T : Addr} {H H' : Hp} (a : Same H H') : Keep T H H' := fun b o h _ => a b o h
theorem Keep.refl {T : Addr} {H : Hp} : Keep T H H := fun _ _ h _ => h
theorem keep_put {T : Addr} {H : Hp} {o : HO} : Keep T H (upd H T o) := fun b u h n => by
  rw [upd_ne n]
  exact h
theorem same_new {H : Hp} {p : Addr} (h : H p = none) (o : HO) : Same H (upd H p o) := fun b u q => by
  rw [upd_ne (ne_of_none q h)]
  exact q
theorem TapeAt.same {H H' : Hp} {T L : Addr} {ns : List Int} {s l : Int} (t : TapeAt H T L ns s l) (a : Same H H') : TapeAt H' T L ns s l := ⟨a _ _ t.d, a _ _ t.c⟩
theorem Tape.same {H H' : Hp} {T L : Addr} {B : Int} (t : Tape H T L B) (a : Same H H') : Tape H' T L B := by
  obtain ⟨ns, s, l, h, r⟩ := t
  exact ⟨ns, s, l, h.same a, r⟩
theorem Tape.put {H : Hp} {T L p : Addr} {o : HO} {B : Int} (t : Tape H T L B) (h1 : p ≠ T) (h2 : p ≠ L) : Tape (upd H p o) T L B := by
  obtain ⟨ns, s, l, h, r⟩ := t
  exact ⟨ns, s, l, ⟨by rw [upd_ne h1.symm]; exact h.d, by rw [upd_ne h2.symm]; exact h.c⟩, r⟩
theorem Tape.nT {H : Hp} {T L p : Addr} {B : Int} (t : Tape H T L B) (h : H p = none) : p ≠ T := fun z => by
  obtain ⟨ns, s, l, a, _⟩ := t
  rw [z, a.d] at h
  cases h
theorem Tape.nL {H : Hp} {T L p : Addr} {B : Int} (t : Tape H T L B) (h : H p = none) : p ≠ L := fun z => by
  obtain ⟨ns, s, l, a, _⟩ := t
  rw [z, a.c] at h
  cases h
theorem Tape.more {H : Hp} {T L : Addr} {B C : Int} (t : Tape H T L B) (h : B ≤ C) : Tape H T L C := by
  obtain ⟨ns, s, l, a, h0, h1, h2⟩ := t
  exact ⟨ns, s, l, a, h0, by omega, h2⟩
theorem Keep.free {T : Addr} {H H' : Hp} (k : Keep T H H') {p : Addr} (h : H' p = none) (n : p ≠ T) : H p = none := by
  cases e : H p with
  | none => rfl
  | some o =>
    rw [k p o e n] at h
    cases h
theorem TapeAt.ne {H : Hp} {T L : Addr} {ns : List Int} {s l : Int} (t : TapeAt H T L ns s l) : L ≠ T := fun z => by
  have e := t.c
  rw [z, t.d] at e
  cases e
theorem TapeAt.put {H : Hp} {T L : Addr} {ns : List Int} {s l s' l' : Int} (t : TapeAt H T L ns s l) : TapeAt (upd H T (.dK (tkv L s' l'))) T L ns s' l' := ⟨upd_same, by rw [upd_ne t.ne]; exact t.c⟩
theorem TapeAt.gS {H : Hp} {T L : Addr} {ns : List Int} {s l : Int} (t : TapeAt H T L ns s l) : DGet H T (.str ("spot" : Str)) (some (.int s)) := DGet.k (k := kS) t.d
theorem TapeAt.gL {H : Hp} {T L : Addr} {ns : List Int} {s l : Int} (t : TapeAt H T L ns s l) : DGet H T (.str ("left" : Str)) (some (.int l)) := DGet.k (k := kL) t.d
theorem TapeAt.gC {H : Hp} {T L : Addr} {ns : List Int} {s l : Int} (t : TapeAt H T L ns s l) : DGet H T (.str ("cells" : Str)) (some (.ref L)) := DGet.k (k := kC) t.d
theorem TapeAt.pS {H : Hp} {T L : Addr} {ns : List Int} {s l v : Int} (t : TapeAt H T L ns s l) : DPut H T (.str ("spot" : Str)) (.int v) (upd H T (.dK (tkv L v l))) := DPut.k (k := kS) (v := .int v) t.d (tkv_len L s l)
theorem TapeAt.pL {H : Hp} {T L : Addr} {ns : List Int} {s l v : Int} (t : TapeAt H T L ns s l) : DPut H T (.str ("left" : Str)) (.int v) (upd H T (.dK (tkv L s v))) := DPut.k (k := kL) (v := .int v) t.d (tkv_len L s l)
/-! ### numbers -/
theorem fm {i j : Int} (h : 0 < j) : 0 ≤ i.fmod j ∧ i.fmod j < j := by
  rw [Int.fmod_eq_emod_of_nonneg _ (by omega)]
  exact ⟨Int.emod_nonneg _ (by omega), Int.emod_lt_of_pos _ h⟩
theorem mul64 {i j : Int} (h1 : 0 ≤ i) (h2 : i < 18446744073709551616) (h3 : 0 ≤ j) (h4 : j < 18446744073709551616) : CMulW i j :=
  wide_mul (a := 64) (b := 64) (by omega) (by omega) (by decide) (by decide) (by decide)
abbrev sevenP : List V := [.int 2147483647, .int 2147483629, .int 2147483587, .int 2147483579, .int 2147483563, .int 2147483549, .int 2147483543]
theorem prime_at {i : Int} (h0 : 0 ≤ i) (h7 : i < 7) : ∃ p : Int, atI sevenP i = some (.int p) ∧ 2147483543 ≤ p ∧ p ≤ 2147483647 := by
  have c : i = 0 ∨ i = 1 ∨ i = 2 ∨ i = 3 ∨ i = 4 ∨ i = 5 ∨ i = 6 := by omega
  rcases c with rfl | rfl | rfl | rfl | rfl | rfl | rfl <;> exact ⟨_, rfl, by decide, by decide⟩
theorem at_in {α : Type} {xs : List α} {i : Int} (h0 : 0 ≤ i) (h : i < (xs.length : Int)) : ∃ v, v ∈ xs ∧ atI xs i = some v := by
  have hk : i.toNat < xs.length := by omega
  have e : i = ((i.toNat : Nat) : Int) := by omega
  refine ⟨xs[i.toNat], List.getElem_mem hk, ?_⟩
  have z := atI_nat (List.getElem?_eq_getElem hk)
  rw [← e] at z
  exact z
theorem at_mod {cs : List Int} (h : 0 < cs.length) (s : Int) : ∃ v : Int, atI (cs.map V.int) (s.fmod ((cs.map V.int).length : Int)) = some (.int v) := by
  have hl : 0 < (((cs.map V.int).length : Nat) : Int) := by
    rw [List.length_map]
    omega
  obtain ⟨v, hv, e⟩ := at_in (xs := cs.map V.int) (fm hl (i := s)).1 (fm hl (i := s)).2
  obtain ⟨z, _, rfl⟩ := List.mem_map.mp hv
  exact ⟨z, e⟩
theorem both_ways {p : Prop} {i : Decidable p} {R : Bool → Prop} (a : R true) (b : R false) : R (@decide p i) := by
  cases @decide p i
  · exact b
  · exact a
theorem less_draw {m : Int} {n : Nat} (hm : 1000000 < m) (h : m.natAbs < 2 ^ (19 * (n + 1))) : 1 ≤ m / 1000000 + 1 ∧ (m / 1000000 + 1).natAbs < 2 ^ (19 * n) := by
  rw [Nat.mul_succ, Nat.pow_add] at h
  have e : (2 : Nat) ^ 19 = 524288 := by decide
  rw [e] at h
  cases n with
  | zero =>
    rw [Nat.mul_zero, Nat.pow_zero] at h
    omega
  | succ j =>
    have g : 2 ^ 19 ≤ 2 ^ (19 * (j + 1)) := Nat.pow_le_pow_right (by decide) (by omega)
    rw [e] at g
    generalize 2 ^ (19 * (j + 1)) = X at g h
    omega
theorem cutR {R G : Prop} (k : R → G) (r : R) : G := k r
/-! ### the two defs -/
def spTape (K : PySem.W.Frag) : Sp := fun vs H Q _ => ∃ (a : Addr) (ns : List Int), vs = [.ref a] ∧ SqL K H a (ns.map V.int) ∧ ∀ (H' : Hp) (T L : Addr), Tape H' T L 0 → Same H H' → H T = none → H L = none → Q (.ref T) H'
def spDraw (n : Nat) : Sp := fun vs H Q _ => ∃ (T L : Addr) (m B : Int), vs = [.ref T, .int m] ∧ 1 ≤ m ∧ m.natAbs < 2 ^ (19 * n) ∧ B + n ≤ 1000000 ∧ Tape H T L B ∧
  ∀ (H' : Hp) (r : Int), 0 ≤ r → r < m → Tape H' T L (B + n) → Keep T H H' → Q (.int r) H'
theorem scTape : FnScope ["_law_script"] ["_law_script"] (defScope sTape) := ⟨rfl, rfl, rfl, by decide +kernel, rfl, by decide +kernel, by decide +kernel⟩
theorem scDraw : FnScope ["_law_tape_here", "_law_many", "_law_found", "_law_spot", "_law_cells", "_law_cell", "_law_primes", "_law_prime", "_law_seed"] ["_law_tape_here", "_law_many"] (defScope sDraw) := ⟨rfl, rfl, rfl, by decide +kernel, rfl, by decide +kernel, by decide +kernel⟩
section
variable {P : Program} {w : World} {K : PySem.W.Frag} {mg : Str → Option Value} {base : Heap} {f : Addr} {fd : FuncData}
theorem cut63 (ns : List Int) : ∃ ms : List Int, cutV (ns.map V.int) none (some 63) = ms.map V.int ∧ ms.length ≤ 63 := by
  refine ⟨ns.take (min 63 ns.length), ?_, by rw [List.length_take]; omega⟩
  unfold cutV
  rw [show HT.sIx (ns.map V.int).length (ns.map V.int).length (some 63) = min 63 (ns.map V.int).length from HT.sIx_nat _ _ 63, HT.sIx_none]
  rw [List.length_map, List.drop_zero, List.map_take]
  rfl
theorem ok_tape {k : Nat} (F : FnP K "_law_tape" sTape f fd) : FnOk P w K mg base CX0 (k + 1) f fd ["_law_script"] (spTape K) := by
  refine F.ok scTape (fun vs H Q E h => ?_) (fun cdv A outer s H vs Q E hr h => ?_)
  · obtain ⟨a, ns, rfl, _⟩ := h
    rfl
  obtain ⟨a, ns, rfl, hS, q⟩ := h
  refine ⟨_, PSs.nox (pss_one (ps_ret (pe_disp (pps_cons pe_str (pe_slice sl_list (pv 0) po_none (po_some pe_int)) (pps_cons pe_str pe_int (pps_cons pe_str pe_int pps_nil))) (by rfl) (by rfl) (fun z => by cases z) (by decide)))), ?_⟩
  refine fun p np => ⟨.ref a, rfl, ?_⟩
  have s1 : Same H (upd H p (.dK [])) := same_new np _
  refine ⟨63, rfl, a, _, rfl, s1.seq hS, fun c nc => ?_⟩
  have s2 := same_new nc (.lst (cutV (ns.map V.int) none (some 63)))
  have ncp : p ≠ c := fun e => by
    rw [← e, upd_same] at nc
    cases nc
  obtain ⟨ms, em, lm⟩ := cut63 ns
  refine ⟨by rw [upd_ne ncp, upd_same], [(kC, .ref c), (kS, .int 0), (kL, .int 0)], rfl, (by show 3 ≤ 15; decide), ?_⟩
  refine q _ p c ⟨ms, 0, 0, ⟨?_, ?_⟩, Int.le_refl 0, Int.le_refl 0, lm⟩ ?_ np (s1.free nc)
  · rw [upd_same]
    rfl
  · rw [upd_ne ncp.symm, upd_same, em]
  · intro b o h
    have hb : b ≠ p := ne_of_none h np
    rw [upd_ne hb]
    exact s2 _ _ (s1 _ _ h)
theorem or_cells {σ : L2.St} {H : Hp} {T L : Addr} {ns : List Int} {s l : Int} (e0 : σ[0]? = some (some (.ref T))) (t : TapeAt H T L ns s l) (hn : ns.length ≤ 63) :
    ∀ Q : VK, (∀ (C : Addr) (cs : List Int) (H2 : Hp), SqL K H2 C (cs.map V.int) → 0 < cs.length → cs.length ≤ 63 → Same H H2 → Q (.ref C) H2) →
      tOrT K (tDGet (tVar 0) (tC (.str ("cells" : Str)))) (tLst (tCons (tC (.int 0)) tNil)) σ H Q := fun Q q => by
  refine ⟨_, e0, T, _, rfl, t.gC, !(ns.map V.int).isEmpty, .inl ⟨_, SqL.of t.c, rfl⟩, ?_⟩
  cases ns with
  | nil =>
    refine iteF ?_
    exact ⟨(by show 1 ≤ sizeLine; decide), fun p np => q p [0] _ (SqL.of upd_same) (by decide) (by decide) (same_new np _)⟩
  | cons x r =>
    refine iteT ?_
    exact q L (x :: r) _ (SqL.of t.c) (by simp) hn (Same.refl _)
theorem ok_draw {n : Nat} (hn : n ≤ 20) (F : FnP K "_law_draw" sDraw f fd) (G : FnOk P w K mg base CX0 n f fd ["_law_tape_here", "_law_many"] (spDraw n)) (b : Binds K fd ["_law_tape_here", "_law_many"] []) (gD : mg "_law_draw" = some (.ref f)) (ml : mg "len" = none) :
    FnOk P w K mg base CX0 (n + 1) f fd ["_law_tape_here", "_law_many"] (spDraw (n + 1)) := by
  refine F.ok scDraw (fun vs H Q E h => ?_) (fun cdv A outer s H vs Q E hr h => ?_)
  · obtain ⟨T, L, m, B, rfl, _⟩ := h
    rfl
  obtain ⟨T, L, m, B, rfl, hm1, hm2, hB, hT, q⟩ := h
  have hu := hu_of hr
  refine ⟨_, PSs.nox (pss_cons (ps_if (pt_cmpR op_gt (pe_dget hu (pv 0) pe_str (fun _ _ => rfl)) pe_int (nomark _))
 (pss_cons (ps_set (i := 2) scDraw.nd rfl (Or.inl rfl) (pe_op op_modN (pe_dget hu (pv 0) pe_str (fun _ _ => rfl)) (pv 1)))
 (pss_cons (ps_dput hu (pv 0) pe_str (pe_op op_fdivW (pe_dget hu (pv 0) pe_str (fun _ _ => rfl)) (pv 1)) rfl)
 (pss_one (ps_ret (pv 2))))) pss_nil)
 (pss_cons (ps_set (i := 3) scDraw.nd rfl (Or.inl rfl) (pe_dget hu (pv 0) pe_str (fun _ _ => rfl)))
 (pss_cons (ps_dput hu (pv 0) pe_str (pe_op op_add (pv 3) pe_int) rfl)
 (pss_cons (ps_set (i := 4) scDraw.nd rfl (Or.inl rfl) (pe_orT (pe_dget hu (pv 0) pe_str (fun _ _ => rfl)) (pe_one (pe_lst (pa_cons pe_int pa_nil)))))
 (pss_cons (ps_set (i := 5) scDraw.nd rfl (Or.inl rfl) (pe_ix ix_list (pv 4) (pe_op op_modN (pv 3) (pe_callB call_len_seq (by rfl) ml PySem.boot_len (pa_cons (pv 4) pa_nil))) (fun _ _ => rfl)))
 (pss_cons (ps_if (PW.pt (pw_and (pt_cmpR op_ge (pv 5) (pe_op op_pow pe_int pe_int) (nomark _)) (pw_and1 (pt_cmpR op_lt (pv 3) (pe_callB call_len_seq (by rfl) ml PySem.boot_len (pa_cons (pv 4) pa_nil)) (nomark _)))))
 (pss_cons (ps_dput hu (pv 0) pe_str (pe_op op_fdivW (pe_op op_sub (pv 5) (pe_op op_pow pe_int pe_int)) (pv 1)) rfl)
 (pss_one (ps_ret (pe_op op_modN (pe_op op_sub (pv 5) (pe_op op_pow pe_int pe_int)) (pv 1))))) pss_nil)
 (pss_cons (ps_set (i := 6) scDraw.nd rfl (Or.inl rfl) (pe_lst (pa_cons pe_int (pa_cons pe_int (pa_cons pe_int (pa_cons pe_int (pa_cons pe_int (pa_cons pe_int (pa_cons pe_int pa_nil)))))))))
 (pss_cons (ps_set (i := 7) scDraw.nd rfl (Or.inl rfl) (pe_ix ix_list (pv 6) (pe_op op_modN (pv 3) pe_int) (fun _ _ => rfl)))
 (pss_cons (ps_set (i := 8) scDraw.nd rfl (Or.inl rfl) (pe_op op_modN (pe_op op_add (pe_op op_add (pe_op op_add (pe_op op_mulW (pe_op op_modN (pv 5) (pv 7)) pe_int) (pe_op op_mulW (pe_op op_mulW pe_int (pv 3)) (pv 3))) (pe_op op_mulW pe_int (pv 3))) pe_int) (pv 7)))
 (pss_cons (ps_set (i := 8) scDraw.nd rfl (Or.inl rfl) (pe_op op_modN (pe_op op_mulW (pv 8) (pe_op op_add (pv 8) pe_int)) (pe_ix ix_list (pv 6) (pe_op op_modN (pe_op op_add (pv 3) pe_int) pe_int) (fun _ _ => rfl))))
 (pss_cons (ps_set (i := 2) scDraw.nd rfl (Or.inl rfl) (pe_op op_fdivW (pe_op op_modN (pe_op op_mulW (pv 8) (pv 8)) (pv 7)) pe_int))
 (pss_cons (ps_if (pt_cmpR op_gt (pv 1) (pe_op op_pow pe_int pe_int) (nomark _))
 (pss_one (ps_set (i := 2) scDraw.nd rfl (Or.inl rfl) (pe_op op_add (pe_op op_modN (pv 2) (pe_op op_pow pe_int pe_int)) (pe_op op_mul (pe_op op_pow pe_int pe_int) (pe_call G hr (by rfl) gD F.kp b .nil pass0 (pa_cons (pv 0) (pa_cons (pe_op op_add (pe_op op_fdivW (pv 1) (pe_op op_pow pe_int pe_int)) pe_int) pa_nil))))))) pss_nil)
 (pss_one (ps_ret (pe_op op_modN (pv 2) (pv 1)))))))))))))))), ?_⟩
  obtain ⟨ns, s0, l, ht, h0, hB1, hlen⟩ := hT
  have hdv : ∀ i : Int, CDivW i m := fun i => wide_div (b := 19 * (n + 1)) (by omega) hm2 (by omega) (by omega)
  have hm0 : m ≠ 0 := by omega
  have hmp : 0 < m := by omega
  have hBn : B + ((n + 1 : Nat) : Int) = B + n + 1 := by omega
  rw [hBn] at q
  -- the number kept
  refine ⟨_, rfl, T, _, rfl, ht.gL, _, _, rfl, rfl, _, rfl, ite2 (fun c => ?_) (fun c => ?_)⟩
  · refine ⟨_, rfl, T, _, rfl, ht.gL, _, rfl, _, _, rfl, rfl, hm0, ?_⟩
    refine ⟨_, rfl, T, _, rfl, ht.gL, _, rfl, _, _, rfl, rfl, hdv _, _, rfl, T, _, rfl, ht.pL, _, rfl, ?_⟩
    exact q _ _ (fm hmp).1 (fm hmp).2 ⟨ns, s0, l / m, ht.put, h0, by omega, hlen⟩ keep_put
  -- a cell
  refine ⟨_, rfl, T, _, rfl, ht.gS, ?_⟩
  refine ⟨_, rfl, _, _, rfl, rfl, _, rfl, T, _, rfl, ht.pS, ?_⟩
  have t1 : TapeAt (upd H T (.dK (tkv L (s0 + 1) l))) T L ns (s0 + 1) l := ht.put
  refine or_cells rfl t1 hlen _ (fun C cs H2 hC hc1 hc2 sm => ?_)
  have t2 := t1.same sm
  have k2 : Keep T H H2 := Keep.trans keep_put (Keep.of sm)
  have hcl : ((cs.map V.int).length : Int) ≠ 0 := by
    rw [List.length_map]
    omega
  obtain ⟨cell, hcell⟩ := at_mod hc1 s0
  refine ⟨_, rfl, _, rfl, _, rfl, C, _, rfl, .inl hC, _, _, rfl, rfl, hcl, C, _, _, _, rfl, rfl, hC, hcell, ?_⟩
  have cp : CPow 10 18 := ⟨by decide, by decide, by decide⟩
  have cp6 : CPow 10 6 := ⟨by decide, by decide, by decide⟩
  apply cutR
  case k =>
    intro rest
    refine ⟨_, rfl, _, _, rfl, rfl, cp, _, _, rfl, rfl, _, rfl, ite2 (fun _ => ⟨_, rfl, _, rfl, C, _, rfl, .inl hC, _, _, rfl, rfl, _, rfl, ite2 (fun _ => ?ka) (fun _ => ?kb)⟩) (fun _ => ?kc)⟩
    case kb => exact rest
    case kc => exact iteF rest
    case ka =>
      refine ⟨_, rfl, _, _, rfl, rfl, cp, _, _, rfl, rfl, _, rfl, _, _, rfl, rfl, hdv _, _, rfl, T, _, rfl, t2.pL, ?_⟩
      refine ⟨_, rfl, _, _, rfl, rfl, cp, _, _, rfl, rfl, _, rfl, _, _, rfl, rfl, hm0, ?_⟩
      exact q _ _ (fm hmp).1 (fm hmp).2 ⟨ns, s0 + 1, _, t2.put, by omega, by omega, hlen⟩ (k2.trans keep_put)
  refine ⟨(by show 7 ≤ sizeLine; decide), fun p np => ?_⟩
  have sp := same_new np (.lst sevenP)
  have t3 := t2.same sp
  have k3 := k2.trans (Keep.of sp)
  have hp : SqL K (upd H2 p (.lst sevenP)) p sevenP := SqL.of upd_same
  obtain ⟨pr, e1, b1, b2⟩ := prime_at (fm (i := s0) (show (0 : Int) < 7 by decide)).1 (fm (show (0 : Int) < 7 by decide)).2
  obtain ⟨p2, e2, b3, b4⟩ := prime_at (fm (i := s0 + 3) (show (0 : Int) < 7 by decide)).1 (fm (show (0 : Int) < 7 by decide)).2
  have h7 : (7 : Int) ≠ 0 := by decide
  have pr0 : pr ≠ 0 := by omega
  have p20 : p2 ≠ 0 := by omega
  have prp : 0 < pr := by omega
  have p2p : 0 < p2 := by omega
  -- prime
  refine ⟨_, rfl, _, rfl, _, _, rfl, rfl, h7, p, _, _, _, rfl, rfl, hp, e1, ?_⟩
  -- seed
  have hs := hB1
  refine ⟨_, rfl, _, rfl, _, _, rfl, rfl, pr0, _, _, rfl, rfl, mul64 (fm prp).1 (by have := (fm (i := cell) prp).2; omega) (by decide) (by decide), _, rfl, _, _, rfl, rfl, mul64 (by decide) (by decide) h0 (by omega), _, rfl, _, _, rfl, rfl,
    mul64 (by omega) (by omega) h0 (by omega), _, _, rfl, rfl, _, rfl, _, _, rfl, rfl, mul64 (by decide) (by decide) h0 (by omega), _, _, rfl, rfl, _, _, rfl, rfl, _, rfl, _, _, rfl, rfl, pr0, ?_⟩
  have z1 := fm (i := cell.fmod pr * 48271 + 7919 * s0 * s0 + 69621 * s0 + 1) prp
  refine ⟨_, rfl, _, rfl, _, _, rfl, rfl, _, _, rfl, rfl, mul64 z1.1 (by omega) (by omega) (by omega), _, rfl, _, rfl, _, _, rfl, rfl, _, _, rfl, rfl, h7, p, _, _, _, rfl, rfl, hp, e2, _, _, rfl, rfl, p20, ?_⟩
  have z2 := fm (i := (cell.fmod pr * 48271 + 7919 * s0 * s0 + 69621 * s0 + 1).fmod pr * ((cell.fmod pr * 48271 + 7919 * s0 * s0 + 69621 * s0 + 1).fmod pr + 16807)) p2p
  refine ⟨_, rfl, _, rfl, _, _, rfl, rfl, mul64 z2.1 (by omega) z2.1 (by omega), _, rfl, _, _, rfl, rfl, pr0, _, _, rfl, rfl, wide_div (b := 7) (by decide) (by decide) (by decide) (by decide), ?_⟩
  have e6 : (10 : Int) ^ (6 : Int).toNat = 1000000 := by decide
  have n6 : (10 : Int) ^ (6 : Int).toNat ≠ 0 := by decide
  have d6 : ∀ i : Int, CDivW i ((10 : Int) ^ (6 : Int).toNat) := fun i => wide_div (b := 20) (by decide) (by decide) (by decide) (by decide)
  refine ⟨_, rfl, _, _, rfl, rfl, cp6, _, _, rfl, rfl, _, rfl, ite2 (fun c => ?_) (fun c => ?_)⟩
  · have c' : 1000000 < m := by
      have c2 := of_decide_eq_true c
      rw [e6] at c2
      exact c2
    obtain ⟨l1, l2⟩ := less_draw c' hm2
    rw [← e6] at l1 l2
    refine ⟨_, rfl, _, _, rfl, rfl, cp6, _, _, rfl, rfl, n6, _, _, rfl, rfl, cp6, _, rfl, _, rfl, _, _, rfl, rfl, cp6, _, _, rfl, rfl, d6 _, _, _, rfl, rfl, ?_⟩
    refine ⟨T, L, _, B + 1, rfl, l1, l2, by omega, ⟨ns, s0 + 1, l, t3, by omega, by omega, hlen⟩, fun H3 r r0 r1 t4 k4 => ?_⟩
    refine ⟨_, _, rfl, rfl, .inl ⟨by decide, by decide⟩, _, _, rfl, rfl, ?_⟩
    refine ⟨_, rfl, _, rfl, _, _, rfl, rfl, hm0, ?_⟩
    exact q _ _ (fm hmp).1 (fm hmp).2 (t4.more (by omega)) (k3.trans k4)
  · refine ⟨_, rfl, _, rfl, _, _, rfl, rfl, hm0, ?_⟩
    exact q _ _ (fm hmp).1 (fm hmp).2 ⟨ns, s0 + 1, l, t3, by omega, by omega, hlen⟩ k3
theorem no_draw : FnOk P w K mg base CX0 0 f fd ["_law_tape_here", "_law_many"] (spDraw 0) := by
  have no : ∀ vs H Q E, ¬ spDraw 0 vs H Q E := fun vs H Q E h => by
    obtain ⟨T, L, m, B, _, h1, h2, _⟩ := h
    have h3 : m.natAbs < 1 := h2
    omega
  exact ⟨fun vs H Q E h => absurd h (no vs H Q E), fun A outer s H args us vs Q E _ _ _ _ h => absurd h (no vs H Q E)⟩
theorem all_draw (F : FnP K "_law_draw" sDraw f fd) (b : Binds K fd ["_law_tape_here", "_law_many"] []) (gD : mg "_law_draw" = some (.ref f)) (ml : mg "len" = none) :
    ∀ n : Nat, n ≤ 20 → FnOk P w K mg base CX0 n f fd ["_law_tape_here", "_law_many"] (spDraw n)
  | 0, _ => no_draw
  | n + 1, h => ok_draw (by omega) F (all_draw F b gD ml n (by omega)) b gD ml
end
end My

set_option maxRecDepth 100000
set_option maxHeartbeats 4000000
namespace My
open PySem PySem.Spec PyProof.Rows L2
abbrev sWords : Stmt := top 17
theorem scWords : FnScope ["_law_tape_here", "_law_many", "_law_letters", "_law_own", "_law_k", "_law_base", "_law_found", "_law_letter", "_law_some", "_law_word", "_law_more"] ["_law_tape_here", "_law_many"] (defScope sWords) := ⟨rfl, rfl, rfl, by decide +kernel, rfl, by decide +kernel, by decide +kernel⟩
abbrev abc : Str := "abcdefghijklmnopqrstuvwxyz"
def own8 : List Str := Txt.split ("nota andy org isa yesno given noa same" : Str) (" " : Str)
theorem own8_len : own8.length = 8 := by decide +kernel
theorem own8_le : ∀ z ∈ own8, z.length ≤ 8 := by decide +kernel
theorem join_le : ∀ ys : List Str, (∀ z ∈ ys, z.length ≤ 1) → (Str.join ("" : Str) ys).length ≤ ys.length
  | [], _ => Nat.le_refl _
  | [x], h => h x (List.mem_singleton_self x)
  | x :: y :: r, h => by
    have e : Str.join ("" : Str) (x :: y :: r) = x ++ ("" : Str) ++ Str.join ("" : Str) (y :: r) := rfl
    have i := join_le (y :: r) (fun z hz => h z (List.mem_cons_of_mem _ hz))
    have g := h x List.mem_cons_self
    have z0 : (("" : Str)).length = 0 := by decide
    rw [e, strLen_append, strLen_append, z0, List.length_cons]
    omega
theorem sum_le : ∀ ys : List Str, (∀ z ∈ ys, z.length ≤ 1) → (ys.map (fun x => x.length)).sum ≤ ys.length
  | [], _ => Nat.le_refl _
  | x :: r, h => by
    have i := sum_le r (fun z hz => h z (List.mem_cons_of_mem _ hz))
    have g := h x List.mem_cons_self
    rw [List.map_cons, List.sum_cons, List.length_cons]
    omega
theorem one_len (c : Nat) : (⟨#[c]⟩ : Str).length = 1 := rfl
theorem cut_le {z : Str} {k : Nat} : (cutS z none (some (k : Int))).length ≤ k := by
  unfold cutS
  show ((z.cps.toList.drop _).take _).toArray.size ≤ k
  rw [List.size_toArray, List.length_take, HT.sIx_nat, HT.sIx_none]
  omega
theorem cut8 (z : Str) : (cutS z none (some 8)).length ≤ 8 := cut_le (k := 8)
theorem cut7 (z : Str) : (cutS z none (some 7)).length ≤ 7 := cut_le (k := 7)
theorem abc_at {r : Int} (h0 : 0 ≤ r) (h1 : r < 26) : ∃ c, atI abc.cps.toList r = some c := by
  have e : abc.cps.toList.length = 26 := by decide +kernel
  obtain ⟨c, _, h⟩ := at_in (xs := abc.cps.toList) h0 (by rw [e]; exact h1)
  exact ⟨c, h⟩
theorem flat_strs (ws : List Str) : (ws.map V.str).all flatV = true := by
  rw [List.all_map]
  exact List.all_eq_true.mpr fun _ _ => rfl
theorem small {n : Nat} (h : n ≤ 1000) : n ≤ sizeLine := Nat.le_of_lt (small1000 h)
def spWords (K : PySem.W.Frag) : Sp := fun vs H Q _ => ∃ (T L : Addr) (n : Nat) (B : Int), vs = [.ref T, .int n] ∧ n ≤ 12 ∧ B + 2000 ≤ 1000000 ∧ Tape H T L B ∧
  ∀ (H' : Hp) (p : Addr) (ws : List Str), ws.length = n → (∀ z ∈ ws, z.length ≤ 8) → H' p = some (.lst (ws.map V.str)) → H p = none → Tape H' T L (B + 1000) → Keep T H H' → Q (.ref p) H'
section
variable {P : Program} {w : World} {K : PySem.W.Frag} {mg : Str → Option Value} {base : Heap} {f fD : Addr} {fd fdD : FuncData}
theorem ok_words {k : Nat} (hk : 11 ≤ k) (F : FnP K "_law_words" sWords f fd) (G : FnOk P w K mg base CX0 11 fD fdD ["_law_tape_here", "_law_many"] (spDraw 11)) (b : Binds K fdD ["_law_tape_here", "_law_many"] []) (gD : mg "_law_draw" = some (.ref fD)) (kD : PySem.W.keepIn K (.ref fD) = true) (mr : mg "range" = none) :
    FnOk P w K mg base CX0 (k + 1) f fd ["_law_tape_here", "_law_many"] (spWords K) := by
  refine F.ok scWords (fun vs H Q E h => ?_) (fun cdv A outer s H vs Q E hr0 h => ?_)
  · obtain ⟨T, L, n, B, rfl, _⟩ := h
    rfl
  obtain ⟨T, L, n, B, rfl, hn, hB, hT, q⟩ := h
  have hu := hu_of hr0
  have hr : Room 11 _ := hr0.mono hk
  refine ⟨_, PSs.nox (pss_cons (ps_set (i := 2) scWords.nd rfl (Or.inr rfl) pe_str)
 (pss_cons (ps_set (i := 3) scWords.nd rfl (Or.inl rfl) (pe_split pe_str pe_str))
 (pss_cons (ps_set (i := 5) scWords.nd rfl (Or.inl rfl) (pe_join pe_str (pe_lc (own := [("_law_k", 4)]) (g := gName 4) (tt := tYes) (by rfl) scWords.nd (pi_range1 (by rfl) mr (pa_cons (pe_op op_add pe_int (pe_call G hr (by rfl) gD kD b .nil pass0 (pa_cons (pv 0) (pa_cons pe_int pa_nil)))) pa_nil)) (blkOk_by (own := [("_law_k", 4)]) (N := ["_law_tape_here", "_law_many", "_law_letters", "_law_own", "_law_k", "_law_base", "_law_found", "_law_letter", "_law_some", "_law_word", "_law_more"]) (sc := defScope sWords) (by decide +kernel)) (fun _ _ _ _ _ => pg_name (i := 4) scWords.nd rfl (Or.inl rfl)) (fun _ _ _ _ _ => pts_nil) (fun _ _ _ _ _ => (pe_ix ix_str (pv 2) (pe_call G hr (by rfl) gD kD b .nil pass0 (pa_cons (pv 0) (pa_cons pe_int pa_nil))) (fun _ _ => rfl))))))
 (pss_cons (ps_set (i := 6) scWords.nd rfl (Or.inl rfl) (pe_lst pa_nil))
 (pss_cons (ps_for PassesOwn.never rfl (pi_range1 (by rfl) mr (pa_cons (pv 1) pa_nil)) (pg_name (i := 4) scWords.nd rfl (Or.inl rfl))
 (pss_cons (ps_set (i := 7) scWords.nd rfl (Or.inl rfl) (pe_ix ix_str (pv 2) (pe_call G hr (by rfl) gD kD b .nil pass0 (pa_cons (pv 0) (pa_cons pe_int pa_nil))) (fun _ _ => rfl)))
 (pss_cons (ps_set (i := 8) scWords.nd rfl (Or.inl rfl) (pe_lst (pa_cons (pv 5) (pa_cons (pe_op op_add_str (pv 5) (pv 7)) (pa_cons (pe_op op_add_str (pv 7) (pv 5)) (pa_cons (pv 7) (pa_cons (pe_op op_add_str (pe_op op_add_str (pv 5) (pv 7)) (pv 7)) (pa_cons (pe_ix ix_list (pv 3) (pe_call G hr (by rfl) gD kD b .nil pass0 (pa_cons (pv 0) (pa_cons pe_int pa_nil))) (fun _ _ => rfl)) pa_nil))))))))
 (pss_cons (ps_set (i := 9) scWords.nd rfl (Or.inl rfl) (pe_slice sl_str (pe_ix ix_list (pv 8) (pe_call G hr (by rfl) gD kD b .nil pass0 (pa_cons (pv 0) (pa_cons pe_int pa_nil))) (fun _ _ => rfl)) po_none (po_some pe_int)))
 (pss_cons (ps_for PassesOwn.never rfl (pi_str (pv 2)) (pg_name (i := 10) scWords.nd rfl (Or.inl rfl))
 (pss_one (ps_if (PW.pt (pw_or (pt_cmpR op_in_seq (pv 9) (pv 6) rfl) (pw_or1 (pt_cmpR op_in_seq (pv 9) (pe_tup (pa_cons pe_str (pa_cons pe_str (pa_cons pe_str (pa_cons pe_str (pa_cons pe_str (pa_cons pe_str (pa_cons pe_str pa_nil)))))))) rfl))))
 (pss_one (ps_set (i := 9) scWords.nd rfl (Or.inl rfl) (pe_op op_add_str (pe_slice sl_str (pv 9) po_none (po_some pe_int)) (pv 10)))) pss_nil)))
 (pss_one (ps_expr (pe_bm PySem.F.plainAttrs_list PySem.F.slot_list_append PySem.F.type_list_append mt_append (pv 6) (pa_cons (pv 9) pa_nil)))))))))
 (pss_one (ps_ret (pv 6)))))))), ?_⟩
  have habc : abc.length ≤ sizeLine := by decide +kernel
  refine ⟨⟨_, rfl⟩, _, _, rfl, rfl, (by decide +kernel), (by decide +kernel), fun pO nO => ?_⟩
  have sO : Same H (upd H pO (.lst (own8.map V.str))) := same_new nO _
  have tO := hT.same sO
  have oT : pO ≠ T := hT.nT nO
  have oL : pO ≠ L := hT.nL nO
  -- base
  refine ⟨⟨_, rfl⟩, _, rfl, T, L, 6, B, rfl, by decide, by decide, by omega, tO, fun H1 r r0 r1 t1 k1 => ?_⟩
  have e1 : H1 pO = some (.lst (own8.map V.str)) := k1 _ _ upd_same oT
  refine ⟨_, _, rfl, rfl, _, rfl, by omega, by omega, fun D nD => lc_range (lo := 0) (n := (1 + r).toNat) (fun i H' => ∃ ws : List Str, H' D = some (.lst (ws.map V.str)) ∧ ws.length = i ∧ (∀ z ∈ ws, z.length ≤ 1) ∧
    Tape H' T L (B + 11 + 11 * i) ∧ Keep T H H' ∧ H' pO = some (.lst (own8.map V.str))) ?_ ?_ ?_⟩
  · refine ⟨[], upd_same, rfl, (fun z hz => by cases hz), (t1.same (same_new nD _)).more (by omega), ((Keep.of sO).trans k1).trans (Keep.of (same_new nD _)), same_new nD _ _ _ e1⟩
  · rintro i H2 hi ⟨ws, eD, hl, hz, tp, kp, eO⟩
    have dT : D ≠ T := t1.nT nD
    have dL : D ≠ L := t1.nL nD
    refine ⟨rfl, ?_⟩
    refine ⟨_, rfl, _, rfl, T, L, 26, _, rfl, by decide, by decide, by omega, tp, fun H3 r3 a0 a1 t3 k3 => ?_⟩
    obtain ⟨c, hc⟩ := abc_at a0 a1
    have dO : pO ≠ D := ne_of_none e1 nD
    refine ⟨_, _, c, rfl, rfl, habc, hc, _, k3 _ _ eD dT, (by rw [List.length_map]; exact small1000 (by omega)), ws ++ [⟨#[c]⟩], ?_, ?_, ?_, (t3.put dT dL).more (by omega), ?_, ?_⟩
    · rw [upd_same, List.map_append]
      rfl
    · rw [List.length_append, hl]
      rfl
    · intro z hz'
      rcases List.mem_append.mp hz' with h | h
      · exact hz z h
      · rw [List.mem_singleton.mp h]
        exact Nat.le_refl _
    · intro b o h n
      have hb : b ≠ D := fun z => by
        have y : H1 b = some o := k1 _ _ (sO _ _ h) n
        rw [z, nD] at y
        cases y
      rw [upd_ne hb]
      exact k3 _ _ (kp _ _ h n) n
    · rw [upd_ne dO]
      exact k3 _ _ eO oT
  rintro H2 ⟨bs, eD, hl, hz, t2, k2, e2⟩
  have hbs : bs.length ≤ 7 := by omega
  refine ⟨_, D, bs, rfl, rfl, .inl (SqL.of eD), ?_, ?_⟩
  · have z0 : (("" : Str)).length = 0 := by decide
    have y := sum_le bs hz
    rw [z0]
    omega
  have hbl : (Txt.join ("" : Str) bs).length ≤ 7 := by
    rw [TL.join_eq]
    exact Nat.le_trans (join_le bs hz) hbs
  generalize Txt.join ("" : Str) bs = bse at hbl
  -- found = []
  refine ⟨Nat.zero_le _, fun pF nF => ?_⟩
  have fT : pF ≠ T := t2.nT nF
  have fL : pF ≠ L := t2.nL nF
  have fO : pO ≠ pF := ne_of_none e2 nF
  have nF0 : H pF = none := k2.free nF fT
  have s2 := same_new nF (.lst [])
  have hn2 : ((n : Nat) : Int).toNat = n := Int.toNat_natCast n
  refine ⟨_, rfl, _, rfl, by omega, by omega, for_range (lo := 0) (n := ((n : Nat) : Int).toNat) (fun i σ H' => ∃ (kk l sm wd mo : Option V) (ws : List Str),
    σ = [some (.ref T), some (.int n), some (.str abc), some (.ref pO), kk, some (.str bse), some (.ref pF), l, sm, wd, mo] ∧ ws.length = i ∧ (∀ z ∈ ws, z.length ≤ 8) ∧
    H' pF = some (.lst (ws.map V.str)) ∧ H' pO = some (.lst (own8.map V.str)) ∧ Tape H' T L (B + 100 + 33 * i) ∧ Keep T H H') ?_ ?_ ?_⟩
  · exact ⟨_, _, _, _, _, [], rfl, rfl, (fun z hz => by cases hz), upd_same, s2 _ _ e2, (t2.same s2).more (by omega), k2.trans (Keep.of s2)⟩
  · rintro i σ H3 hi ⟨kk, l, sm, wd, mo, ws, rfl, hl, hw, eF, eO, tp, kp⟩
    have hwn : ws.length ≤ 12 := by omega
    -- letter
    refine ⟨_, rfl, _, rfl, T, L, 26, _, rfl, by decide, by decide, by omega, tp, fun H4 r4 a0 a1 t4 k4 => ?_⟩
    obtain ⟨c, hc⟩ := abc_at a0 a1
    refine ⟨_, _, c, rfl, rfl, habc, hc, ?_⟩
    have l1 : (⟨#[c]⟩ : Str).length = 1 := rfl
    have z1 : bse.length + (⟨#[c]⟩ : Str).length ≤ sizeLine := small (by omega)
    have z2 : (⟨#[c]⟩ : Str).length + bse.length ≤ sizeLine := small (by omega)
    have z3 : (bse ++ (⟨#[c]⟩ : Str)).length + (⟨#[c]⟩ : Str).length ≤ sizeLine := by
      rw [strLen_append]
      exact small (by omega)
    refine ⟨_, rfl, _, rfl, _, rfl, _, _, rfl, rfl, z1, _, rfl, _, rfl, _, _, rfl, rfl, z2, _, rfl, _, rfl, _, rfl, _, _, rfl, rfl, z1, _, rfl, _, _, rfl, rfl, z3, ?_⟩
    refine ⟨_, rfl, _, rfl, T, L, 8, _, rfl, by decide, by decide, by omega, t4, fun H5 r5 a2 a3 t5 k5 => ?_⟩
    have eO5 := k5 _ _ (k4 _ _ eO oT) oT
    have eF5 := k5 _ _ (k4 _ _ eF fT) fT
    obtain ⟨vo, ho1, ho2⟩ := at_in (xs := own8.map V.str) a2 (by rw [List.length_map, own8_len]; exact a3)
    obtain ⟨o1, ho3, rfl⟩ := List.mem_map.mp ho1
    refine ⟨pO, _, _, _, rfl, rfl, SqL.of eO5, ho2, (by show 6 ≤ sizeLine; decide), fun pS nS => ?_⟩
    have s5 := same_new nS (.lst [.str bse, .str (bse ++ (⟨#[c]⟩ : Str)), .str ((⟨#[c]⟩ : Str) ++ bse), .str ⟨#[c]⟩, .str (bse ++ (⟨#[c]⟩ : Str) ++ (⟨#[c]⟩ : Str)), .str o1])
    -- word
    refine ⟨_, rfl, _, rfl, T, L, 6, _, rfl, by decide, by decide, by omega, t5.same s5, fun H6 r6 a4 a5 t6 k6 => ?_⟩
    have sT : pS ≠ T := t5.nT nS
    have eS6 := k6 _ _ upd_same sT
    have eO6 := k6 _ _ (s5 _ _ eO5) oT
    have eF6 := k6 _ _ (s5 _ _ eF5) fT
    have k06 : Keep T H H6 := (((kp.trans k4).trans k5).trans (Keep.of s5)).trans k6
    have six : ∃ z : Str, atI ([.str bse, .str (bse ++ (⟨#[c]⟩ : Str)), .str ((⟨#[c]⟩ : Str) ++ bse), .str ⟨#[c]⟩, .str (bse ++ (⟨#[c]⟩ : Str) ++ (⟨#[c]⟩ : Str)), .str o1] : List V) r6 = some (.str z) ∧ z.length ≤ 16 := by
      have g := own8_le o1 ho3
      have c6 : r6 = 0 ∨ r6 = 1 ∨ r6 = 2 ∨ r6 = 3 ∨ r6 = 4 ∨ r6 = 5 := by omega
      rcases c6 with rfl | rfl | rfl | rfl | rfl | rfl
      · exact ⟨_, rfl, by omega⟩
      · exact ⟨_, rfl, by rw [strLen_append]; omega⟩
      · exact ⟨_, rfl, by rw [strLen_append]; omega⟩
      · exact ⟨_, rfl, by omega⟩
      · exact ⟨_, rfl, by rw [strLen_append, strLen_append]; omega⟩
      · exact ⟨_, rfl, by omega⟩
    obtain ⟨z, hz1, hz2⟩ := six
    refine ⟨pS, _, _, _, rfl, rfl, SqL.of eS6, hz1, 8, rfl, z, rfl, small (by omega), ?_⟩
    have zl := cut8 z
    generalize cutS z none (some 8) = wd0 at zl
    -- for more in letters
    refine ⟨_, rfl, _, rfl, for_it walk_str (fun j σ H' => ∃ (wd : Str) (mo : Option V), σ = [some (.ref T), some (.int n), some (.str abc), some (.ref pO), some (.int (0 + i)), some (.str bse), some (.ref pF), some (.str ⟨#[c]⟩), some (.ref pS), some (.str wd), mo] ∧ wd.length ≤ 8 ∧ Same H6 H') ?_ (fun _ _ _ _ _ => trivial) ?_ ?_⟩
    · exact ⟨wd0, mo, rfl, zl, Same.refl _⟩
    · rintro j x σ H7 H8 hj ⟨wd1, mo1, rfl, wl, sm7⟩ ⟨rfl, c2, hc2, rfl⟩
      have eF7 := sm7 _ _ eF6
      refine ⟨_, rfl, _, rfl, pF, _, rfl, .inl (SqL.of eF7), rfl, flat_strs ws, _, rfl, ?_⟩
      have y1 : (cutS wd1 none (some 7)).length + (⟨#[c2]⟩ : Str).length ≤ 8 := by
        have := cut7 wd1
        have e : (⟨#[c2]⟩ : Str).length = 1 := rfl
        omega
      refine ite2 (fun _ => ?_) (fun _ => ?_)
      · refine iteT ?_
        refine ⟨_, rfl, 7, rfl, _, rfl, small (by omega), _, rfl, _, _, rfl, rfl, small (by omega), _, _, rfl, (by rw [strLen_append]; exact y1), sm7⟩
      · refine ⟨_, rfl, (by show 7 ≤ sizeLine; decide), fun pT nT => ⟨pT, _, rfl, .inr (SqT.of upd_same), rfl, (by decide), _, rfl, ?_⟩⟩
        have s8 := same_new nT (.tup [.str "not", .str "and", .str "or", .str "gives", .str "is", .str "yes", .str "no"])
        refine ite2 (fun _ => ?_) (fun _ => ?_)
        · refine ⟨_, rfl, 7, rfl, _, rfl, small (by omega), _, rfl, _, _, rfl, rfl, small (by omega), _, _, rfl, (by rw [strLen_append]; exact y1), sm7.trans s8⟩
        · exact ⟨wd1, _, rfl, wl, sm7.trans s8⟩
    · rintro σ H7 ⟨wd1, mo1, rfl, wl, sm7⟩
      have eF7 := sm7 _ _ eF6
      refine ⟨_, rfl, .inl ⟨rfl, _, SqL.of eF7⟩, _, rfl, pF, _, _, rfl, rfl, eF7, (by rw [List.length_map]; exact small1000 (by omega)), ?_⟩
      refine ⟨_, _, _, _, _, ws ++ [wd1], rfl, (by rw [List.length_append, hl]; rfl), ?_, ?_, ?_, ?_, ?_⟩
      · intro y hy
        rcases List.mem_append.mp hy with h | h
        · exact hw y h
        · rw [List.mem_singleton.mp h]
          exact wl
      · rw [upd_same, List.map_append]
        rfl
      · rw [upd_ne fO]
        exact sm7 _ _ eO6
      · exact ((t6.same sm7).put fT fL).more (by omega)
      · intro b o h m
        rw [upd_ne (ne_of_none h nF0)]
        exact sm7 _ _ (k06 _ _ h m)
  · rintro σ H3 ⟨kk, l, sm, wd, mo, ws, rfl, hl, hw, eF, eO, tp, kp⟩
    refine ⟨_, rfl, q H3 pF ws (by omega) hw eF nF0 (tp.more (by omega)) kp⟩
end
end My

set_option maxRecDepth 100000
set_option maxHeartbeats 4000000
/-! Classes of errors over five built-in ones, each with an __init__ that stores its one parameter: made as values, their field read, asked by isinstance. KeyError makes its instances by LookupError's __new__. -/
namespace XE
open PySem PySem.W PySem.Calls PyProof.Rows
abbrev mroK : List Value := [.type "KeyError", .type "LookupError", .type "Exception", .type "BaseException", .type "object"]
theorem slot_key : Slot "KeyError" "__setattr__" "object.__setattr__" := .of (owner := "object")
  (n := "__setattr__")
  (by
    rw [typeLookup_type, builtinLookup_eq_fast]
    kernel_rfl)
  (by decide +kernel) (by decide +kernel) (by decide +kernel)
  (by
    first
      | exact .inl (by decide +kernel)
      | exact .inr (by decide +kernel))
  (by
    rw [isSubtype_type]
    kernel_rfl)
theorem store_key : StoreFacts "KeyError" mroK "object.__setattr__" "object" :=
  { mro := by kernel_rfl
    slot := slot_key
    entry := PySem.F.store_object.entry
    kind := PySem.F.store_object.kind
    split := PySem.F.store_object.split
    hasOwner := by decide +kernel
    args := PySem.F.store_object.args
    passes := fun self => by kernel_rfl }
section
variable {prog : Program} {w : World} {A : Around} {E : Value → Shared → Prop} {R : Result → Shared → Prop} {h : Heap} {g : Array GenState} {d : Drawn} {t : Nat} {os : OsState}
variable {nm q : Str} {C N : Addr} {bs bm : List Value} {hdct : Bool} {sn : List Str} {sub : List Value} {ab : Bool} {col : Option Bool} {dd : Option Addr} {k0 k1 k2 k3 k5 : Option Value}
/-- what a list of classes says of a KeyError -/
structure Keyed (bm : List Value) : Prop where
  own : bm.contains (.type "LookupError") = true
  noA : bm.contains (.type "AttributeError") = false
  noN : bm.contains (.type "NameError") = false
theorem keyed_of (hT : ∀ X : String, bm.contains (.type X) = mroK.contains (.type X)) : Keyed bm :=
  ⟨(hT _).trans (by decide +kernel), (hT _).trans (by decide +kernel), (hT _).trans (by decide +kernel)⟩
theorem behind {X : String} {b : Bool} (e : bm.contains (.type X) = b) : (Value.ref C :: bm).contains (.type X) = b := by
  rw [List.contains_cons, e]
  rfl
theorem key_check {M : Model} {rest : List Value} {Q : Unit → Shared → Prop} (Y : Keyed bm) (cl : h.get? C = some (excClassObj nm q C N bs bm hdct sn sub ab col dd k0 k1 k2 k3 k5 "LookupError.__new__")) (yes : Q () ⟨h, g, d, t, os⟩) :
    wpAny M A (checkBuiltinCall "LookupError.__new__" ⟨.ref C :: rest, []⟩) Q E ⟨h, g, d, t, os⟩ := by
  have L := PySem.F.excBase_LookupError
  have in1 := behind (C := C) Y.own
  have star := L.noStar
  simp only [checkBuiltinCall, L.newKind, L.newSplit, L.newRow]
  repeat (first
    | refine wpAny_loadPart_at cl ?_
    | (refine wpAny_isSubtype_exc cl ?_; rw [in1])
    | refine wpAny_staticBase_exc cl ?_
    | refine wpAny_madeBy_exc cl ?_
    | simp only [bne_self_eq_false, Bool.false_eq_true, if_false]
    | wp_step)
  exact yes
theorem key_new {rest : List Value} (Y : Keyed bm) (cl : h.get? C = some (excClassObj nm q C N bs bm hdct sn sub ab col dd k0 k1 k2 k3 k5 "LookupError.__new__"))
    (yes : R (.ok (.ret (.ref (h.objs.size + 1)))) ⟨(h.push (kdv_tup rest)).push (PySem.PX.excO C h.objs.size), g, d, t, os⟩) (few : rest.length ≤ sizeLine) :
    codeAny (model prog w) A (.builtin "LookupError.__new__" ⟨.ref C :: rest, []⟩) R ⟨h, g, d, t, os⟩ := by
  have L := PySem.F.excBase_LookupError
  have hends := L.ends
  have in1 := behind (C := C) Y.own
  have in2 := behind (C := C) Y.noA
  have in3 := behind (C := C) Y.noN
  refine codeAny_builtinAt L.entry ?_
  unfold Builtin.«BaseException.__new__»
  refine PySem.wpAt_bind ?_
  show PySem.wpAt _ _ _ (stack >>= _) _ _ _
  refine PySem.wpAt_bind (PySem.wpAt_stack fun p below => PySem.wpAt_of_wpAny ?_)
  wp_walk
  refine PySem.wpAt_of_wpAny ?_
  rw [L.owner]
  repeat (first
    | with_reducible refine wpAny_madeHere_exc L.canon cl ?_
    | with_reducible refine wpAny_loadPart_at cl ?_
    | (with_reducible refine wpAny_isSubtype_exc cl ?_
       first
        | rw [in1]
        | rw [in2]
        | rw [in3])
    | wp_step)
  show R _ _
  rw [Heap.size_push]
  exact yes
theorem key_type {rest : List Value} {fI : Addr} {Q : Fin → Shared → Prop} (Y : Keyed bm) (cl : h.get? C = some (excClassObj nm q C N bs bm hdct sn sub ab col dd k0 k1 k2 k3 k5 "LookupError.__new__"))
    (ini : Looks (model prog w) h (typeLookup (.ref C) "__init__") (some (.ref fI))) (bnd : ∀ self, Looks (model prog w) h (bindSpecial (.ref fI) self) (.ref fI, [self])) (few : rest.length ≤ sizeLine)
    (run : codeAny (model prog w) A (.call (.ref fI) ⟨.ref (h.objs.size + 1) :: rest, []⟩)
      (fun r s' => match r with | .ok (.ret v) => v = .none ∧ Q (.done (.ret (.ref (h.objs.size + 1)))) s' | .ok _ => False | .error e => E e s') ⟨(h.push (kdv_tup rest)).push (PySem.PX.excO C h.objs.size), g, d, t, os⟩) :
    wpAny (model prog w) A (Builtin.«type.__call__» ⟨.ref C :: rest, []⟩) Q E ⟨h, g, d, t, os⟩ := by
  repeat (first
    | with_reducible refine wpAny_loadPart_at cl ?_
    | with_reducible refine wpAny_madeBy_exc cl ?_
    | wp_step)
  refine codeAny_call_builtin_code (Code.quiet_builtin _ PySem.F.excBase_LookupError.quiet) (key_check Y cl ?_)
  refine key_new Y cl ?_ few
  show wpAny _ _ _ _ _ _
  have k : ∀ b o, h.get? b = some o → ((h.push (kdv_tup rest)).push (PySem.PX.excO C h.objs.size)).get? b = some o := fun b o e =>
    Heap.get?_push_of_some _ (Heap.get?_push_of_some _ e)
  have cl1 := k _ _ cl
  have at1 : ((h.push (kdv_tup rest)).push (PySem.PX.excO C h.objs.size)).get? (h.objs.size + 1) = some (PySem.PX.excO C h.objs.size) := by
    heap_get
  have self1 : (Value.ref C :: bm).contains (.ref C) = true := by simp
  have i1 := ini.keeps k
  have b1 := (bnd (.ref (h.objs.size + 1))).keeps k
  unfold isInstance
  repeat (first
    | with_reducible refine wpAny_loadPart_at at1 ?_
    | (with_reducible refine wpAny_isSubtype_exc cl1 ?_; rw [self1])
    | wp_step)
  show wpAny _ _ (typeLookup (.ref C) _) _ _ _
  refine i1.at (wpAny_holding (wpAny_bind (b1.at ?_)))
  refine wpAny_bind (wpAny_call (codeAny_mono run fun r s' z => ?_))
  rcases r with e | (v | _ | _ | _) <;>
    first
      | exact z
      | exact z.elim
      | skip
  obtain ⟨rfl, z2⟩ := z
  first
    | exact wpAny_pure (wpAny_pure z2)
    | (wp_walk
       exact z2)
theorem key_call {rest : List Value} {fI : Addr} (Y : Keyed bm) (cl : h.get? C = some (excClassObj nm q C N bs bm hdct sn sub ab col dd k0 k1 k2 k3 k5 "LookupError.__new__"))
    (ini : Looks (model prog w) h (typeLookup (.ref C) "__init__") (some (.ref fI))) (bnd : ∀ self, Looks (model prog w) h (bindSpecial (.ref fI) self) (.ref fI, [self])) (few : rest.length ≤ sizeLine)
    (run : codeAny (model prog w) (A.under (.builtin "type.__call__" ⟨.ref C :: rest, []⟩)) (.call (.ref fI) ⟨.ref (h.objs.size + 1) :: rest, []⟩) (InitBack (h.objs.size + 1) R) ⟨(h.push (kdv_tup rest)).push (PySem.PX.excO C h.objs.size), g, d, t, os⟩) :
    codeAny (model prog w) A (.call (.ref C) ⟨rest, []⟩) R ⟨h, g, d, t, os⟩ := by
  have a1 := tc_lookup
  have a2 := tc_bind (.ref C)
  have a3 : (⟨h, g, d, t, os⟩ : Shared).TypeIs (.ref C) "type" := ⟨_, cl, rfl⟩
  refine codeAny_of_tree ?_
  show wpAny _ _ (callAny (.ref C) _) _ _ _
  repeat (any_goals (first
    | assumption
    | with_reducible refine wpAny_loadPart_at cl ?_
    | wp_step))
  refine ⟨rfl, ?_⟩
  have quiet : Code.quiet (.builtin "type.__call__" ⟨.ref C :: rest, []⟩) = true := Code.quiet_builtin _ (by decide +kernel)
  refine codeAny_call_builtin_at quiet entry_typeCall (wpAny_check_type_call_sub cl (key_type Y cl ini bnd few ?_))
  refine codeAny_mono run fun r s' z => ?_
  rcases r with e | (v | _ | _ | _) <;> exact z
end
end XE

set_option maxRecDepth 100000
set_option maxHeartbeats 4000000
namespace XE
open PySem PySem.W PySem.Calls PyProof.Rows
/-- the names of the fields -/
inductive Fl where
  | row | why | name | label | step | spot | most
def Fl.s : Fl → Str
  | .row => "row"
  | .why => "why"
  | .name => "name"
  | .label => "label"
  | .step => "step"
  | .spot => "spot"
  | .most => "most"
/-- the five built-in classes: what stands behind a class over it, what makes its instances -/
inductive Five : List Value → String → Prop where
  | val : Five [.type "ValueError", .type "Exception", .type "BaseException", .type "object"] "ValueError.__new__"
  | key : Five mroK "LookupError.__new__"
  | ind : Five [.type "IndexError", .type "LookupError", .type "Exception", .type "BaseException", .type "object"] "IndexError.__new__"
  | look : Five [.type "LookupError", .type "Exception", .type "BaseException", .type "object"] "LookupError.__new__"
  | over : Five [.type "OverflowError", .type "ArithmeticError", .type "Exception", .type "BaseException", .type "object"] "OverflowError.__new__"
theorem Five.store {bmB : List Value} {newId : String} (F : Five bmB newId) : ∃ B, StoreFacts B bmB "object.__setattr__" "object" := by
  cases F
  · exact ⟨_, PySem.F.store_ValueError⟩
  · exact ⟨_, store_key⟩
  · exact ⟨_, PySem.F.store_IndexError⟩
  · exact ⟨_, PySem.F.store_LookupError⟩
  · exact ⟨_, PySem.F.store_OverflowError⟩
def iA (f : Fl) (p1 p2 : Pos) : Arguments := { posonlyargs := [], args := [{ arg := "self", annotation := none, pos := p1 }, { arg := f.s, annotation := none, pos := p2 }], vararg := none, kwonlyargs := [], kw_defaults := [], kwarg := none, defaults := [] }
def iB (f : Fl) (q1 q2 q3 q4 : Pos) : List Stmt := [.Assign [.Attribute (.Name "self" q1) f.s q2] (.Name f.s q3) q4]
def iS (f : Fl) : Scope := { kind := .function, names := [(PySem.Str.ofString "self", .local), (f.s, .local)], isGenerator := false, isCoroutine := false, more := [] }
/-- what the written part says of such a class, at C, and of its __init__, at fI -/
structure Err (K : Frag) (C fI : Addr) (f : Fl) (bmB : List Value) (newId : String) : Prop where
  five : Five bmB newId
  ini : excInitIn K C bmB newId = true
  ovr : excOver K C bmB = true
  iC : findIn K (.ref C) "__init__" = some (some (.ref fI))
  isF : isFn K (.ref fI) = true
  sa : findIn K (.ref C) "__setattr__" = some (some (.builtin "object.__setattr__"))
  tk : takerIn K C f.s = some none
  hd : hasDictIn K C = true
  noF : findIn K (.ref C) f.s = some none
  ga : findIn K (.ref C) "__getattribute__" = some (some (.builtin "BaseException.__getattribute__"))
  gg : findIn K (.ref C) "__getattr__" = some none
  exC : subIn K (.ref C) (.type "BaseException") = some true
  kC : keepIn K (.ref C) = true
  cl : findIn K (.ref C) "__class__" = some (some (.builtin "object.__class__"))
  sp : specialIn K (.builtin "object.__class__") "__get__" = some (some (.builtin "getset_descriptor.__get__"))
  tc : takesIn K (.builtin "object.__class__") = some true
  mo : mroIn K C (.type "object") = some true
  fn : ∃ (qual : Str) (oc : Value) (od : Option Addr) (kv doc pm : Value) (an : Option Addr) (cdv ct : Value) (osl : Array (Option Value)) (p1 p2 q1 q2 q3 q4 : Pos),
    K.lookup fI = some ⟨oc, od, .func (fnOf "__init__" qual (iA f p1 p2) (iB f q1 q2 q3 q4) (iS f) .none kv doc pm an cdv ct), osl⟩ ∧ codeIn K cdv qual = true
section
variable {prog : Program} {w : World} {A : Around} {E : Value → Shared → Prop} {R : Result → Shared → Prop} {s : Shared} {K : Frag} {C fI : Addr} {bmB : List Value} {newId : String} {f : Fl}
theorem exc_store {x t : Addr} {name : Str} {tk : Tok} {v : Value} (F : Five bmB newId) (X : K.In s.heap) (hx : s.heap.get? x = some (excObj C t none .none)) (hp : excOver K C bmB = true) (ht : takerIn K C name = some none) (hh : hasDictIn K C = true)
    (hq : ∀ h' tk' dx, (∀ b o, b ≠ x → s.heap.get? b = some o → h'.get? b = some o) → s.heap.objs.size ≤ dx → dx ≠ x → h'.get? x = some (excObj C t (some dx) .none) → h'.Ns1 dx (fun y => if y = name then some v else none) →
      R (.ok (.ret .none)) { s with heap := h', toks := tk' }) :
    codeAny (model prog w) A (.call (.builtin "object.__setattr__") ⟨[.ref x, .str name tk, v], []⟩) R s := by
  obtain ⟨B, SF⟩ := F.store
  have old := Heap.lt_size hx
  have nx : s.heap.objs.size ≠ x := Nat.ne_of_gt old
  refine osa_openX (od := none) SF X ⟨hx, rfl, rfl, trivial⟩ hp ht fun b => ?_
  obtain ⟨cd, hc, hd'⟩ := any_some hh
  refine wpAny_bind (wpAny_pure (wpAny_bind (instanceDict_exc hx (looks_clsIn X hc) hd' ?_)))
  show wpAny _ _ (Builtin.ObjectAttr.storeInDict s.heap.objs.size (.str name tk) name v) _ _ _
  obtain ⟨hp0, g, d, t0, os⟩ := s
  have hx1 : (hp0.push (dictOf [] 0)).get? x = some (excObj C t none .none) := Heap.get?_push_of_some _ hx
  refine PySem.HandSPX.store_in_new ?_ fun h' tk' hn' hs => ?_
  · refine ⟨dictOf [] 0, #[], _, ?_, rfl, fun e he => absurd he (by simp), fun _ => rfl⟩
    rw [Heap.get?_update_ne _ _ _ _ nx]
    exact Heap.get?_push_at rfl rfl
  · refine hq h' tk' hp0.objs.size (fun b o hb ho => ?_) (Nat.le_refl _) nx ?_ hn'
    · rw [hs.2 b (Nat.ne_of_lt (Heap.lt_size ho)), Heap.get?_update_ne _ _ _ _ hb]
      exact Heap.get?_push_of_some _ ho
    · rw [hs.2 x nx.symm]
      exact Heap.get?_update_self _ hx1 rfl
theorem ldC {M : Model} {s : Shared} {name : Str} {scope : Scope} {L a : Addr} {cd : Value} {m : Str → Option Value} {x : Str} {pos : Pos} {v : Value} {Q : Value → Shared → Prop} {A : Around} {E : Value → Shared → Prop} (hn : s.heap.Ns L m) (hv : m x = some v) (h : Q v s)
    (hk : scope.kind = .function := by rfl) (hl : (envOfC name scope L a cd).kindOf x = some .local := by rfl) (hd : (x == ("__debug__" : Str)) = false := by decide) :
    wpAny M A (eval (.Name x pos) (envOfC name scope L a cd)) Q E s := wpAny_Name (wpAny_loadName_local hk hl hn hv h) hd
/-- what __init__ leaves of a fresh exception at x -/
structure InitEnd (h h' : Heap) (x C dx t1 : Addr) (n : Str) (v : Value) : Prop where
  keep : ∀ b o, b ≠ x → h.get? b = some o → h'.get? b = some o
  obj : h'.get? x = some (excObj C t1 (some dx) .none)
  dbig : h.objs.size ≤ dx
  dne : dx ≠ x
  ns : h'.Ns1 dx (fun y => if y = n then some v else none)
/-- a made one -/
structure OwnMade (h h' : Heap) (e C d : Addr) (n : Str) (v : Value) : Prop where
  keep : ∀ b o, h.get? b = some o → h'.get? b = some o
  new : h.objs.size ≤ e
  obj : ∃ t, h'.get? e = some (excObj C t (some d) .none)
  dbig : h.objs.size ≤ d
  dne : d ≠ e
  ns : h'.Ns1 d (fun y => if y = n then some v else none)
theorem err_init (T : Err K C fI f bmB newId) {x t0 : Addr} {v : Value} (X : K.In s.heap) (hlim : s.heap.NoLimit) (hx : s.heap.get? x = some (excObj C t0 none .none)) (hroom : A.depth < recursionLimit)
    (hq : ∀ h' tk dx, InitEnd s.heap h' x C dx t0 f.s v → R (.ok (.ret .none)) { s with heap := h', toks := tk }) :
    codeAny (model prog w) A (.call (.ref fI) ⟨[.ref x, v], []⟩) R s := by
  obtain ⟨qual, oc, od, kv, doc, pm, an, cdv, ct, osl, p1, p2, q1, q2, q3, q4, ho, hcd⟩ := T.fn
  refine Att.call_fn (binds := [("self", .ref x), (f.s, v)]) X hlim ho hcd hroom (BindsTo.of_eq (by cases f <;> rfl)) (by cases f <;> rfl) (fun s₁ IC => ?_) rfl rfl rfl
  obtain ⟨h₁, tk₁, rfl⟩ := IC.toInCall.same
  have k : ∀ b o, s.heap.get? b = some o → h₁.get? b = some o := IC.toInCall.keep
  have hn := IC.toInCall.ns
  have hxL : s.heap.objs.size ≠ x := Nat.ne_of_gt (Heap.lt_size hx)
  have X₁ : K.In h₁ := X.keeps k
  have hx₁ := k _ _ hx
  show wpAny _ _ (execs _ _) _ _ _
  refine wpAny_execs_cons (plainObj_wpAny_Assign_Attribute ?_ (by cases f <;> rfl))
  refine ldC (v := v) hn (by cases f <;> rfl) (ldC (v := .ref x) hn (by cases f <;> rfl) ?_ rfl (by cases f <;> rfl)) rfl (by cases f <;> rfl) (by cases f <;> decide)
  refine set_plain X₁ (ox := excObj C t0 none .none) (od := none) ⟨hx₁, rfl, rfl, trivial⟩ T.sa ?_
  refine exc_store T.five X₁ hx₁ T.ovr T.tk T.hd (fun h₃ tk₃ dx k₃ dn dne hx₃ hn₃ => ?_)
  show wpAny _ _ (execs _ _) _ _ _
  have z : s.heap.objs.size < h₁.objs.size := hn.lt
  exact wpAny_execs_nil (hq h₃ tk₃ dx ⟨fun b o hb e => k₃ b o hb (k b o e), hx₃, Nat.le_of_lt (Nat.lt_of_lt_of_le z dn), dne, hn₃⟩)
theorem one_size (v : Value) : [v].length ≤ sizeLine := by
  rw [sizeLine_eq]
  exact (by decide : 1 ≤ 16777216)
theorem five_call {nm q : Str} {N : Addr} {bs bm : List Value} {hdct : Bool} {sn : List Str} {sub : List Value} {ab : Bool} {col : Option Bool} {dd : Option Addr} {k0 k1 k2 k3 k5 : Option Value} {h : Heap} {g : Array GenState} {d : Drawn} {t : Nat} {os : OsState} {rest : List Value}
    (F : Five bmB newId) (hT : ∀ X : String, bm.contains (.type X) = bmB.contains (.type X)) (hC : h.get? C = some (excClassObj nm q C N bs bm hdct sn sub ab col dd k0 k1 k2 k3 k5 newId))
    (hi : Looks (model prog w) h (typeLookup (.ref C) "__init__") (some (.ref fI))) (hb : ∀ self, Looks (model prog w) h (bindSpecial (.ref fI) self) (.ref fI, [self])) (few : rest.length ≤ sizeLine)
    (run : codeAny (model prog w) (A.under (.builtin "type.__call__" ⟨.ref C :: rest, []⟩)) (.call (.ref fI) ⟨.ref (h.objs.size + 1) :: rest, []⟩) (InitBack (h.objs.size + 1) R) ⟨(h.push (kdv_tup rest)).push (PySem.PX.excO C h.objs.size), g, d, t, os⟩) :
    codeAny (model prog w) A (.call (.ref C) ⟨rest, []⟩) R ⟨h, g, d, t, os⟩ := by
  cases F
  · exact PySem.PX.call_own PySem.F.excBase_ValueError hT hC hi hb few run
  · exact key_call (keyed_of hT) hC hi hb few run
  · exact PySem.PX.call_own PySem.F.excBase_IndexError hT hC hi hb few run
  · exact PySem.PX.call_own PySem.F.excBase_LookupError hT hC hi hb few run
  · exact PySem.PX.call_own PySem.F.excBase_OverflowError hT hC hi hb few run
theorem err_made (T : Err K C fI f bmB newId) {v : Value} (X : K.In s.heap) (hlim : s.heap.NoLimit) (hroom : A.depth + 1 < recursionLimit)
    (hq : ∀ h' tk e d, OwnMade s.heap h' e C d f.s v → R (.ok (.ret (.ref e))) { s with heap := h', toks := tk }) :
    codeAny (model prog w) A (.call (.ref C) ⟨[v], []⟩) R s := by
  obtain ⟨nm, N, qn, bs, bm, hdct, sn, sub, ab, col, dd, k0, k1, k2, k3, k5, hC, hT⟩ := excInit_of X T.ini
  obtain ⟨oI, hoI, hcI⟩ : ∃ oI, s.heap.get? fI = some oI ∧ oI.cls = .type "function" := by
    obtain ⟨o, ho, hc⟩ := Option.map_eq_some_iff.mp (show (K.lookup fI).map (·.cls) = some (.type "function") from beq_iff_eq.mp T.isF)
    exact ⟨o, X _ _ ho, hc⟩
  obtain ⟨hp, g, dr, tk, os⟩ := s
  have k : ∀ b o, hp.get? b = some o → ((hp.push (kdv_tup [v])).push (PySem.PX.excO C hp.objs.size)).get? b = some o := fun b o e => Heap.get?_push_of_some _ (Heap.get?_push_of_some _ e)
  have hget : ((hp.push (kdv_tup [v])).push (PySem.PX.excO C hp.objs.size)).get? (hp.objs.size + 1) = some (PySem.PX.excO C hp.objs.size) := by heap_get
  refine five_call T.five hT hC (looks_findIn X T.iC) (fun self => exc_bind hoI hcI self) (one_size v) ?_
  refine err_init (s := ⟨(hp.push (kdv_tup [v])).push (PySem.PX.excO C hp.objs.size), g, dr, tk, os⟩) T (X.keeps k) (hlim.keeps k) hget ?_ fun h' tk' dx ⟨k', hx, dn, dne, hns⟩ => ?_
  · show A.depth + 1 < recursionLimit
    exact hroom
  · have old : ∀ b o, hp.get? b = some o → h'.get? b = some o := fun b o e => k' b o (Nat.ne_of_lt (Nat.lt_succ_of_lt (Heap.lt_size e))) (k b o e)
    have z : hp.objs.size + 1 + 1 ≤ dx := by
      first
        | (simpa only [Heap.size_push] using dn)
        | exact dn
        | (have q := dn; rw [Heap.size_push, Heap.size_push] at q; exact q)
    exact ⟨rfl, hq h' tk' (hp.objs.size + 1) dx ⟨old, Nat.le_succ _, ⟨_, hx⟩, Nat.le_trans (Nat.le_trans (Nat.le_succ _) (Nat.le_succ _)) z, dne, hns⟩⟩
end
end XE

set_option maxRecDepth 100000
set_option maxHeartbeats 4000000
namespace L2
open PySem PySem.Spec PyProof.Rows
/-- C(e), C such a class: a new exception at a, its own dict at d -/
def tErr (C : Addr) (f : Str) (ta : TA) : TE := fun σ H Q => ta σ H fun vs H1 => ∃ v, vs = [v] ∧ ∀ a d, H1 a = none → H1 d = none → d ≠ a → Q (.ref a) (upd (upd H1 d (exd d [(f, v)])) a (exo a C (some d)))
theorem pe_err {X : Cx} {C fI : Addr} {f : XE.Fl} {bmB : List Value} {newId : String} {k : Nat} {x : Str} {a : Expr} {ta : TA} {p pos : Pos} (T : XE.Err X.K C fI f bmB newId) (hr : Room k X.A) (mx : X.mg x = some (.ref C)) (ha : PA X [a] ta) (gx : Gl X x := by rfl)
    (he : starEach (a :: []) X.env = (false, eval a X.env) :: starEach [] X.env := by rfl) (hpl : (backTo pos (starEach [] X.env)).any (·.1) = false := by rfl) (nodb : (x == ("__debug__" : Str)) = false := by decide) :
    PE X (.Call (.Name x p) [a] [] pos) (tErr C f.s ta) := by
  refine ⟨fun pins s σ H Q I h => ?_⟩
  refine wpAny_Call_Name_kw (ld_glob I gx mx ?_ nodb)
  refine PySem.W.callWith_K (h₀ := X.base) I.ok.mod.kin T.kC (thn (ha.run pos pins s σ H _ I h) fun us s1 hh => ?_) he hpl
  obtain ⟨vs, H1, I1, r1, v, ev, q1⟩ := hh
  subst ev
  refine ⟨I1.kIn, ?_⟩
  cases r1 with
  | cons rv rn =>
    rename_i v' us'
    cases rn
    show wpAny _ _ (call (.ref C) [v']) _ _ _
    have hlim := I1.nolimit
    obtain ⟨hp, g, dr, tk, os⟩ := s1
    refine wpAny_call (XE.err_made T I1.kIn hlim (by have := hr.dp; omega) fun h' tk' e d M => ?_)
    obtain ⟨t, hoe⟩ := M.obj
    have hns := M.ns
    obtain ⟨G', g1, g2⟩ := restrict h' fun b => decide (b ≠ e)
    have gk : ∀ b, b ≠ e → G'.get? b = h'.get? b := fun b hb => g1 b (decide_eq_true hb)
    have ge : G'.get? e = none := g2 e (by simp)
    have old : ∀ b o, hp.get? b = some o → G'.get? b = some o := fun b o q => (gk b (Nat.ne_of_lt (Nat.lt_of_lt_of_le (Heap.lt_size q) M.new))).trans (M.keep b o q)
    have back : ∀ b o, G'.get? b = some o → h'.get? b = some o := fun b o q => by
      by_cases hb : b = e
      · rw [hb, ge] at q
        cases q
      · exact (gk b hb).symm.trans q
    have nsG : G'.Ns1 d (fun y => if y = f.s then some v' else none) := hns.at (fun o q => (gk d M.dne).trans q)
    have J : Inv X pins σ (upd H1 d (exd d [(f.s, v)])) ⟨G', g, dr, tk', os⟩ := I1.laid (t' := tk') old M.dbig (exd_ok nsG (relO_put (fs := []) rv fun g => True.intro))
    have fe : H1 e = none := I1.hok.fresh M.new
    have fd : H1 d = none := I1.hok.fresh M.dbig
    have fe2 : (upd H1 d (exd d [(f.s, v)])) e = none := by
      rw [upd_ne M.dne.symm]
      exact fe
    have J2 : Inv X pins σ (upd (upd H1 d (exd d [(f.s, v)])) e (exo e C (some d))) ⟨h', g, dr, tk', os⟩ := J.laidN (t' := tk') back ge fe2 (exo_ok hoe)
    exact ⟨.ref e, _, J2, rfl, q1 e d fe fd M.dne⟩
/-- e.n, e such an exception -/
def tErrF (K : PySem.W.Frag) (n : Str) (te : TE) : TE := fun σ H Q => te σ H fun x H1 => ∃ (a C d fI : Addr) (f : XE.Fl) (bmB : List Value) (newId : String) (v : V), x = .ref a ∧ f.s = n ∧ XE.Err K C fI f bmB newId ∧ H1 a = some (exo a C (some d)) ∧ H1 d = some (exd d [(n, v)]) ∧ Q v H1
theorem pe_errF {X : Cx} {e : Expr} {te : TE} {pos : Pos} {n : Str} (he : PE X e te) (hb : attributeBase e n X.env (eval e X.env) = eval e X.env := by rfl) : PE X (.Attribute e n pos) (tErrF X.K n te) := by
  refine ⟨fun pins s σ H Q I h => ?_⟩
  refine attr_of hb (thn (he.run pins s σ H _ I h) fun u s1 ⟨x, H1, I1, rx, a, C, d, fI, f, bmB, newId, v, ex, en, T, ea, ed, q⟩ => ?_)
  subst ex
  subst en
  obtain rfl : u = Value.ref a := rx
  obtain ⟨t1, ho⟩ := exo_at I1.hok ea
  obtain ⟨mA, hns, hr⟩ := exd_at I1.hok ed
  obtain ⟨od, hod, hl⟩ := lookIn_ns hns
  have e1 : List.lookup f.s [(f.s, v)] = some v := by simp [List.lookup]
  obtain ⟨u, hu, ru⟩ := RelO.some_of (v := v) (o := mA f.s) (by rw [← e1]; exact hr f.s)
  have J : PySem.W.InstAt s1.heap a _ C (some od) := ⟨ho, rfl, rfl, hod⟩
  refine HandSPX.exc_get I1.kIn J T.ga T.gg T.exC (PySem.W.findObj_own T.hd T.noF rfl (by rw [hl, hu])) (handed_of ru) ⟨v, H1, I1.tok _, ru, q⟩
/-- isinstance(e, c), e such an exception -/
def rErrIs (K : PySem.W.Frag) : List V → Hp → VK → Prop := fun xs H Q => ∃ (a C fI : Addr) (d : Option Addr) (f : XE.Fl) (bmB : List Value) (newId : String) (c : V) (cv : Value) (b : Bool), xs = [.ref a, c] ∧ ClsV c cv ∧ XE.Err K C fI f bmB newId ∧ H a = some (exo a C d) ∧
  (∀ d', d = some d' → ∃ fs, H d' = some (exd d' fs)) ∧ PySem.W.kitOne K (.ref C) cv = some b ∧ Q (.bl b) H
theorem call_errIs {X : Cx} : CallR X (.builtin "isinstance") (rErrIs X.K) := by
  intro pins s σ H xs us Q I r h
  obtain ⟨a, C, fI, d, f, bmB, newId, c, cv, b, rfl, k, T, ea, ed, e, q⟩ := h
  obtain ⟨u1, u2, rfl, r1, r2⟩ := vals2 r
  have e2 := k.eq r2
  subst e2
  obtain rfl : u1 = Value.ref a := r1
  obtain ⟨t1, ho⟩ := exo_at I.hok ea
  have hcl : (PySem.W.clsIn X.K C).isSome = true := by
    obtain ⟨cd, hc, _⟩ := PySem.W.any_some T.hd
    rw [hc]
    rfl
  have J : ∃ od ox, PySem.W.InstAt s.heap a ox C od := by
    cases d with
    | none => exact ⟨none, _, ho, rfl, rfl, trivial⟩
    | some d' =>
      obtain ⟨fs, ef⟩ := ed d' rfl
      obtain ⟨mA, hns, _⟩ := exd_at I.hok ef
      obtain ⟨od, hod, _⟩ := lookIn_ns hns
      exact ⟨some od, _, ho, rfl, rfl, hod⟩
  obtain ⟨od, ox, J⟩ := J
  exact PySem.W.kia_one (PySem.W.kitx_exc hcl T.ga T.gg T.exC T.cl T.sp T.tc T.mo) I.kIn J e (fun z => nomatch z) fun tk => ⟨.bl b, H, I.tok tk, rfl, q⟩
end L2

set_option maxRecDepth 100000
set_option maxHeartbeats 4000000
namespace My
open PySem PySem.Spec PyProof.Rows L2 XE
abbrev sClasses : Stmt := top 18
abbrev sKinds : Stmt := top 19
theorem scClasses : FnScope ["_law_error", "_law_some"] ["_law_error"] (defScope sClasses) := ⟨rfl, rfl, rfl, by decide +kernel, rfl, by decide +kernel, by decide +kernel⟩
theorem scKinds : FnScope ["_law_error", "_law_some"] ["_law_error"] (defScope sKinds) := ⟨rfl, rfl, rfl, by decide +kernel, rfl, by decide +kernel, by decide +kernel⟩
/-! ### the thirteen -/
def enames : List Str := ["NoText", "NoChain", "NoTree", "NoWay", "NoRow", "NoName", "NoLabel", "NoStep", "NoMark", "NoOrder", "NoClash", "TooGreat", "TooMany"]
def bnames : List String := ["ValueError", "KeyError", "IndexError", "LookupError", "OverflowError"]
def fls : List Fl := [.row, .why, .why, .why, .row, .name, .label, .step, .spot, .spot, .row, .most, .most]
def flOf (i : Nat) : Fl := fls.getD i .row
def krow (i : Nat) : List Bool := if i < 5 then [true, false, false, false, false] else if i < 7 then [false, true, false, true, false] else if i < 8 then [false, false, true, true, false] else if i < 11 then [false, false, false, true, false] else [false, false, false, false, true]
structure Txt (K : PySem.W.Frag) (mg : Str → Option Value) (Cs fIs : Nat → Addr) : Prop where
  er : ∀ i, i < 13 → ∃ bmB newId, Err K (Cs i) (fIs i) (flOf i) bmB newId
  g : ∀ i x, enames[i]? = some x → mg x = some (.ref (Cs i))
  b : ∀ (i : Nat) (x : String), bnames[i]? = some x → mg (Str.ofString x) = none
  own : ∀ i j, i < 13 → j < 13 → PySem.W.kitOne K (.ref (Cs i)) (.ref (Cs j)) = some (decide (i = j))
  kin : ∀ i j x, i < 13 → bnames[j]? = some x → PySem.W.kitOne K (.ref (Cs i)) (.type x) = some ((krow i).getD j false)
  mi : mg "isinstance" = none
/-- at a the i-th error, its dict at d, v in its field -/
structure EAt (Cs : Nat → Addr) (H : Hp) (i : Nat) (a d : Addr) (v : V) : Prop where
  a : H a = some (exo a (Cs i) (some d))
  d : H d = some (exd d [((flOf i).s, v)])
theorem EAt.same {Cs : Nat → Addr} {H H' : Hp} {i : Nat} {a d : Addr} {v : V} (e : EAt Cs H i a d v) (s : Same H H') : EAt Cs H' i a d v := ⟨s _ _ e.a, s _ _ e.d⟩
def spClasses (Cs : Nat → Addr) : Sp := fun vs H Q _ => ∃ (i : Nat) (a d : Addr) (v : V), vs = [.ref a] ∧ i < 13 ∧ EAt Cs H i a d v ∧
  ∀ (H' : Hp) (p : Addr), Same H H' → H' p = some (.lst ((List.range 13).map fun j => .bl (decide (i = j)))) → Q (.ref p) H'
def spKinds (Cs : Nat → Addr) : Sp := fun vs H Q _ => ∃ (i : Nat) (a d : Addr) (v : V), vs = [.ref a] ∧ i < 13 ∧ EAt Cs H i a d v ∧
  ∀ (H' : Hp) (p : Addr), Same H H' → H' p = some (.lst ((krow i).map V.bl)) → Q (.ref p) H'
section
variable {P : Program} {w : World} {K : PySem.W.Frag} {mg : Str → Option Value} {base : Heap} {f : Addr} {fd : FuncData} {Cs fIs : Nat → Addr}
theorem is_own (T : Txt K mg Cs fIs) {σ : L2.St} {H : Hp} {i j : Nat} {a d : Addr} {v : V} (e0 : σ[0]? = some (some (.ref a))) (hi : i < 13) (E : EAt Cs H i a d v) (hj : j < 13) (Q : VK) (q : Q (.bl (decide (i = j))) H) :
    tCB (rErrIs K) (tCons (tVar 0) (tCons (tC (.ref (Cs j))) tNil)) σ H Q := by
  obtain ⟨bmB, newId, er⟩ := T.er i hi
  exact ⟨_, e0, a, Cs i, fIs i, some d, flOf i, bmB, newId, .ref (Cs j), _, _, rfl, .own _, er, E.a, (fun d' e => by cases e; exact ⟨_, E.d⟩), T.own i j hi hj, q⟩
theorem is_kin (T : Txt K mg Cs fIs) {σ : L2.St} {H : Hp} {i j : Nat} {x : String} {a d : Addr} {v : V} (e0 : σ[0]? = some (some (.ref a))) (hi : i < 13) (E : EAt Cs H i a d v) (hj : bnames[j]? = some x) (Q : VK) (q : Q (.bl ((krow i).getD j false)) H) :
    tCB (rErrIs K) (tCons (tVar 0) (tCons (tC (.ty x)) tNil)) σ H Q := by
  obtain ⟨bmB, newId, er⟩ := T.er i hi
  exact ⟨_, e0, a, Cs i, fIs i, some d, flOf i, bmB, newId, .ty x, _, _, rfl, .ty _, er, E.a, (fun d' e => by cases e; exact ⟨_, E.d⟩), T.kin i j x hi hj, q⟩
theorem ok_classes {k : Nat} (F : FnP K "_law_classes" sClasses f fd) (T : Txt K mg Cs fIs) : FnOk P w K mg base CX0 (k + 1) f fd ["_law_error"] (spClasses Cs) := by
  refine F.ok scClasses (fun vs H Q E h => ?_) (fun cdv A outer s H vs Q E hr h => ?_)
  · obtain ⟨i, a, d, v, rfl, _⟩ := h
    rfl
  obtain ⟨i, a, d, v, rfl, hi, e, q⟩ := h
  refine ⟨_, PSs.nox (pss_cons (ps_set (i := 1) scClasses.nd rfl (Or.inl rfl) (pe_lst (pa_cons (pe_callB call_errIs (by rfl) T.mi (by decide +kernel) (pa_cons (pv 0) (pa_cons (pe_glob (v := V.ref (Cs 0)) (by rfl) (T.g 0 _ rfl) rfl) pa_nil))) (pa_cons (pe_callB call_errIs (by rfl) T.mi (by decide +kernel) (pa_cons (pv 0) (pa_cons (pe_glob (v := V.ref (Cs 1)) (by rfl) (T.g 1 _ rfl) rfl) pa_nil))) (pa_cons (pe_callB call_errIs (by rfl) T.mi (by decide +kernel) (pa_cons (pv 0) (pa_cons (pe_glob (v := V.ref (Cs 2)) (by rfl) (T.g 2 _ rfl) rfl) pa_nil))) (pa_cons (pe_callB call_errIs (by rfl) T.mi (by decide +kernel) (pa_cons (pv 0) (pa_cons (pe_glob (v := V.ref (Cs 3)) (by rfl) (T.g 3 _ rfl) rfl) pa_nil))) pa_nil))))))
 (pss_cons (ps_set (i := 1) scClasses.nd rfl (Or.inl rfl) (pe_op op_cat (pv 1) (pe_lst (pa_cons (pe_callB call_errIs (by rfl) T.mi (by decide +kernel) (pa_cons (pv 0) (pa_cons (pe_glob (v := V.ref (Cs 4)) (by rfl) (T.g 4 _ rfl) rfl) pa_nil))) (pa_cons (pe_callB call_errIs (by rfl) T.mi (by decide +kernel) (pa_cons (pv 0) (pa_cons (pe_glob (v := V.ref (Cs 5)) (by rfl) (T.g 5 _ rfl) rfl) pa_nil))) (pa_cons (pe_callB call_errIs (by rfl) T.mi (by decide +kernel) (pa_cons (pv 0) (pa_cons (pe_glob (v := V.ref (Cs 6)) (by rfl) (T.g 6 _ rfl) rfl) pa_nil))) pa_nil))))))
 (pss_cons (ps_set (i := 1) scClasses.nd rfl (Or.inl rfl) (pe_op op_cat (pv 1) (pe_lst (pa_cons (pe_callB call_errIs (by rfl) T.mi (by decide +kernel) (pa_cons (pv 0) (pa_cons (pe_glob (v := V.ref (Cs 7)) (by rfl) (T.g 7 _ rfl) rfl) pa_nil))) (pa_cons (pe_callB call_errIs (by rfl) T.mi (by decide +kernel) (pa_cons (pv 0) (pa_cons (pe_glob (v := V.ref (Cs 8)) (by rfl) (T.g 8 _ rfl) rfl) pa_nil))) (pa_cons (pe_callB call_errIs (by rfl) T.mi (by decide +kernel) (pa_cons (pv 0) (pa_cons (pe_glob (v := V.ref (Cs 9)) (by rfl) (T.g 9 _ rfl) rfl) pa_nil))) pa_nil))))))
 (pss_one (ps_ret (pe_op op_cat (pv 1) (pe_lst (pa_cons (pe_callB call_errIs (by rfl) T.mi (by decide +kernel) (pa_cons (pv 0) (pa_cons (pe_glob (v := V.ref (Cs 10)) (by rfl) (T.g 10 _ rfl) rfl) pa_nil))) (pa_cons (pe_callB call_errIs (by rfl) T.mi (by decide +kernel) (pa_cons (pv 0) (pa_cons (pe_glob (v := V.ref (Cs 11)) (by rfl) (T.g 11 _ rfl) rfl) pa_nil))) (pa_cons (pe_callB call_errIs (by rfl) T.mi (by decide +kernel) (pa_cons (pv 0) (pa_cons (pe_glob (v := V.ref (Cs 12)) (by rfl) (T.g 12 _ rfl) rfl) pa_nil))) pa_nil)))))))))), ?_⟩
  refine is_own T rfl hi e (j := 0) (by decide) _ (is_own T rfl hi e (j := 1) (by decide) _ (is_own T rfl hi e (j := 2) (by decide) _ (is_own T rfl hi e (j := 3) (by decide) _ ⟨(by show 4 ≤ sizeLine; decide), fun p1 n1 => ?_⟩)))
  have s1 := same_new n1 (.lst [.bl (decide (i = 0)), .bl (decide (i = 1)), .bl (decide (i = 2)), .bl (decide (i = 3))])
  have e1 := e.same s1
  refine ⟨_, rfl, is_own T rfl hi e1 (j := 4) (by decide) _ (is_own T rfl hi e1 (j := 5) (by decide) _ (is_own T rfl hi e1 (j := 6) (by decide) _ ⟨(by show 3 ≤ sizeLine; decide), fun p2 n2 => ?_⟩))⟩
  have s2 := same_new n2 (.lst [.bl (decide (i = 4)), .bl (decide (i = 5)), .bl (decide (i = 6))])
  refine ⟨p1, p2, _, _, rfl, rfl, s2 _ _ upd_same, upd_same, (by show 7 ≤ sizeLine; decide), fun p3 n3 => ?_⟩
  have s3 := (s1.trans s2).trans (same_new n3 (.lst [.bl (decide (i = 0)), .bl (decide (i = 1)), .bl (decide (i = 2)), .bl (decide (i = 3)), .bl (decide (i = 4)), .bl (decide (i = 5)), .bl (decide (i = 6))]))
  have e3 := e.same s3
  refine ⟨_, rfl, is_own T rfl hi e3 (j := 7) (by decide) _ (is_own T rfl hi e3 (j := 8) (by decide) _ (is_own T rfl hi e3 (j := 9) (by decide) _ ⟨(by show 3 ≤ sizeLine; decide), fun p4 n4 => ?_⟩))⟩
  have s4 := same_new n4 (.lst [.bl (decide (i = 7)), .bl (decide (i = 8)), .bl (decide (i = 9))])
  refine ⟨p3, p4, _, _, rfl, rfl, s4 _ _ upd_same, upd_same, (by show 10 ≤ sizeLine; decide), fun p5 n5 => ?_⟩
  have s5 := (s3.trans s4).trans (same_new n5 (.lst [.bl (decide (i = 0)), .bl (decide (i = 1)), .bl (decide (i = 2)), .bl (decide (i = 3)), .bl (decide (i = 4)), .bl (decide (i = 5)), .bl (decide (i = 6)), .bl (decide (i = 7)), .bl (decide (i = 8)), .bl (decide (i = 9))]))
  have e5 := e.same s5
  refine ⟨_, rfl, is_own T rfl hi e5 (j := 10) (by decide) _ (is_own T rfl hi e5 (j := 11) (by decide) _ (is_own T rfl hi e5 (j := 12) (by decide) _ ⟨(by show 3 ≤ sizeLine; decide), fun p6 n6 => ?_⟩))⟩
  have s6 := same_new n6 (.lst [.bl (decide (i = 10)), .bl (decide (i = 11)), .bl (decide (i = 12))])
  refine ⟨p5, p6, _, _, rfl, rfl, s6 _ _ upd_same, upd_same, (by show 13 ≤ sizeLine; decide), fun p7 n7 => ?_⟩
  exact q _ p7 ((s5.trans s6).trans (same_new n7 _)) (by rw [upd_same]; rfl)
theorem ok_kinds {k : Nat} (F : FnP K "_law_kinds" sKinds f fd) (T : Txt K mg Cs fIs) : FnOk P w K mg base CX0 (k + 1) f fd ["_law_error"] (spKinds Cs) := by
  refine F.ok scKinds (fun vs H Q E h => ?_) (fun cdv A outer s H vs Q E hr h => ?_)
  · obtain ⟨i, a, d, v, rfl, _⟩ := h
    rfl
  obtain ⟨i, a, d, v, rfl, hi, e, q⟩ := h
  refine ⟨_, PSs.nox (pss_cons (ps_set (i := 1) scKinds.nd rfl (Or.inl rfl) (pe_lst (pa_cons (pe_callB call_errIs (by rfl) T.mi (by decide +kernel) (pa_cons (pv 0) (pa_cons (pe_bltn (v := V.ty "ValueError") (by rfl) (T.b 0 _ rfl) (by decide +kernel) rfl) pa_nil))) (pa_cons (pe_callB call_errIs (by rfl) T.mi (by decide +kernel) (pa_cons (pv 0) (pa_cons (pe_bltn (v := V.ty "KeyError") (by rfl) (T.b 1 _ rfl) (by decide +kernel) rfl) pa_nil))) (pa_cons (pe_callB call_errIs (by rfl) T.mi (by decide +kernel) (pa_cons (pv 0) (pa_cons (pe_bltn (v := V.ty "IndexError") (by rfl) (T.b 2 _ rfl) (by decide +kernel) rfl) pa_nil))) pa_nil)))))
 (pss_one (ps_ret (pe_op op_cat (pv 1) (pe_lst (pa_cons (pe_callB call_errIs (by rfl) T.mi (by decide +kernel) (pa_cons (pv 0) (pa_cons (pe_bltn (v := V.ty "LookupError") (by rfl) (T.b 3 _ rfl) (by decide +kernel) rfl) pa_nil))) (pa_cons (pe_callB call_errIs (by rfl) T.mi (by decide +kernel) (pa_cons (pv 0) (pa_cons (pe_bltn (v := V.ty "OverflowError") (by rfl) (T.b 4 _ rfl) (by decide +kernel) rfl) pa_nil))) pa_nil))))))), ?_⟩
  refine is_kin T rfl hi e (j := 0) rfl _ (is_kin T rfl hi e (j := 1) rfl _ (is_kin T rfl hi e (j := 2) rfl _ ⟨(by show 3 ≤ sizeLine; decide), fun p1 n1 => ?_⟩))
  have s1 := same_new n1 (.lst [.bl ((krow i).getD 0 false), .bl ((krow i).getD 1 false), .bl ((krow i).getD 2 false)])
  have e1 := e.same s1
  refine ⟨_, rfl, is_kin T rfl hi e1 (j := 3) rfl _ (is_kin T rfl hi e1 (j := 4) rfl _ ⟨(by show 2 ≤ sizeLine; decide), fun p2 n2 => ?_⟩)⟩
  have s2 := same_new n2 (.lst [.bl ((krow i).getD 3 false), .bl ((krow i).getD 4 false)])
  refine ⟨p1, p2, _, _, rfl, rfl, s2 _ _ upd_same, upd_same, (by show 5 ≤ sizeLine; decide), fun p3 n3 => ?_⟩
  refine q _ p3 ((s1.trans s2).trans (same_new n3 _)) ?_
  have k5 : ∀ i : Nat, ([V.bl ((krow i).getD 0 false), .bl ((krow i).getD 1 false), .bl ((krow i).getD 2 false)] ++ [V.bl ((krow i).getD 3 false), .bl ((krow i).getD 4 false)]) = (krow i).map V.bl := fun i => by
    unfold krow
    repeat' split
    all_goals rfl
  rw [upd_same, k5]
end
end My

set_option maxRecDepth 100000
set_option maxHeartbeats 8000000
namespace My
open PySem PySem.Spec PyProof.Rows L2 XE
abbrev sLaw : Stmt := top 20
theorem scLaw : FnScope ["_law_script", "_law_tape_here", "_law_word", "_law_number", "_law_values", "_law_made", "_law_kinds_here", "_law_k", "_law_error", "_law_found", "_law_due", "_law_other"] ["_law_script"] (defScope sLaw) := ⟨rfl, rfl, rfl, by decide +kernel, rfl, by decide +kernel, by decide +kernel⟩
/-- the other defs, where they stand -/
structure Defs (K : PySem.W.Frag) (mg : Str → Option Value) (fT fD fW fC fK : Addr) (dT dD dW dC dK : FuncData) : Prop where
  FT : FnP K "_law_tape" sTape fT dT
  FD : FnP K "_law_draw" sDraw fD dD
  FW : FnP K "_law_words" sWords fW dW
  FC : FnP K "_law_classes" sClasses fC dC
  FK : FnP K "_law_kinds" sKinds fK dK
  gT : mg "_law_tape" = some (.ref fT)
  gD : mg "_law_draw" = some (.ref fD)
  gW : mg "_law_words" = some (.ref fW)
  gC : mg "_law_classes" = some (.ref fC)
  gK : mg "_law_kinds" = some (.ref fK)
  kT : PySem.W.keepIn K (.ref fT) = true
  kD : PySem.W.keepIn K (.ref fD) = true
  kW : PySem.W.keepIn K (.ref fW) = true
  kC : PySem.W.keepIn K (.ref fC) = true
  kK : PySem.W.keepIn K (.ref fK) = true
  bT : Binds K dT ["_law_script"] []
  bD : Binds K dD ["_law_tape_here", "_law_many"] []
  bW : Binds K dW ["_law_tape_here", "_law_many"] []
  bC : Binds K dC ["_law_error"] []
  bK : Binds K dK ["_law_error"] []
  ml : mg "len" = none
  mr : mg "range" = none
  me : mg "enumerate" = none
def spLaw (K : PySem.W.Frag) : Sp := fun vs H Q _ => ∃ (a : Addr) (ns : List Int), vs = [.ref a] ∧ SqL K H a (ns.map V.int) ∧ ∀ H', Q (.bl true) H'

theorem exo_lst {e C : Addr} {d : Option Addr} {xs : List V} : exo e C d ≠ .lst xs := fun z => by
  have z' : HO.ext _ = HO.lst xs := z
  cases z'
theorem exd_lst {e : Addr} {fs : List (Str × V)} {xs : List V} : exd e fs ≠ .lst xs := fun z => by
  have z' : HO.ext _ = HO.lst xs := z
  cases z'
theorem EAt.put {Cs : Nat → Addr} {H : Hp} {i : Nat} {a d p : Addr} {v : V} {xs : List V} {o : HO} (e : EAt Cs H i a d v) (h : H p = some (.lst xs)) : EAt Cs (upd H p o) i a d v :=
  ⟨by rw [upd_ne (ne_of e.a h exo_lst)]; exact e.a, by rw [upd_ne (ne_of e.d h exd_lst)]; exact e.d⟩
theorem err_new {Cs : Nat → Addr} {H : Hp} {i : Nat} {a d : Addr} {v : V} (na : H a = none) (nd : H d = none) (ne : d ≠ a) : Same H (upd (upd H d (exd d [((flOf i).s, v)])) a (exo a (Cs i) (some d))) ∧ EAt Cs (upd (upd H d (exd d [((flOf i).s, v)])) a (exo a (Cs i) (some d))) i a d v := by
  refine ⟨fun b o h => ?_, upd_same, ?_⟩
  · rw [upd_ne (ne_of_none h na), upd_ne (ne_of_none h nd)]
    exact h
  · rw [upd_ne ne, upd_same]
theorem mk_err {Cs : Nat → Addr} {σ : L2.St} {H : Hp} {i : Nat} {v : V} {Q : VK} {ta : TA} (hta : ∀ R : List V → Hp → Prop, R [v] H → ta σ H R) (k : ∀ (H' : Hp) (a d : Addr), Same H H' → EAt Cs H' i a d v → Q (.ref a) H') :
    tErr (Cs i) (flOf i).s ta σ H Q := by
  refine hta _ ⟨v, rfl, fun a d na nd ne => k _ a d (fun b o h => ?_) ⟨upd_same, ?_⟩⟩
  · rw [upd_ne (ne_of_none h na), upd_ne (ne_of_none h nd)]
    exact h
  · rw [upd_ne ne, upd_same]
theorem mk_errV {Cs : Nat → Addr} {σ : L2.St} {H : Hp} {i j : Nat} {v : V} (e : σ[j]? = some (some v)) (Q : VK) (k : ∀ (H' : Hp) (a d : Addr), Same H H' → EAt Cs H' i a d v → Q (.ref a) H') :
    tErr (Cs i) (flOf i).s (tCons (tVar j) tNil) σ H Q := mk_err (fun R r => ⟨_, e, r⟩) k
theorem mk_errX {K : PySem.W.Frag} {Cs : Nat → Addr} {σ : L2.St} {H : Hp} {i : Nat} {p : Addr} {xs : List V} {k : Int} {v : V} (e : σ[4]? = some (some (.ref p))) (hx : SqL K H p xs) (hk : atI xs k = some v) (Q : VK)
    (q : ∀ (H' : Hp) (a d : Addr), Same H H' → EAt Cs H' i a d v → Q (.ref a) H') : tErr (Cs i) (flOf i).s (tCons (tOp (rIxL K) (tVar 4) (tC (.int k))) tNil) σ H Q :=
  mk_err (fun R r => ⟨_, e, p, _, _, _, rfl, rfl, hx, hk, r⟩) q
theorem flat_ref {r : Addr} : ∀ n : Nat, (List.replicate n [V.ref r]).flatten = List.replicate n (V.ref r)
  | 0 => rfl
  | n + 1 => by
    rw [List.replicate_succ, List.flatten_cons, flat_ref n]
    rfl
theorem row_new {H : Hp} {bs : List V} {r o p : Addr} {J : Int} {k : Nat} (hJ : J.toNat = k) (nr : H r = none) (no : upd H r (.lst bs) o = none) (np : upd (upd H r (.lst bs)) o (.lst [.ref r]) p = none) :
    Same H (upd (upd (upd H r (.lst bs)) o (.lst [.ref r])) p (.lst (List.replicate J.toNat [V.ref r]).flatten)) ∧ (upd (upd (upd H r (.lst bs)) o (.lst [.ref r])) p (.lst (List.replicate J.toNat [V.ref r]).flatten)) r = some (.lst bs) ∧
      (upd (upd (upd H r (.lst bs)) o (.lst [.ref r])) p (.lst (List.replicate J.toNat [V.ref r]).flatten)) p = some (.lst (List.replicate k (.ref r))) := by
  have s1 := same_new nr (.lst bs)
  have s2 := same_new no (.lst [.ref r])
  have s3 := same_new np (.lst (List.replicate J.toNat [V.ref r]).flatten)
  refine ⟨(s1.trans s2).trans s3, s3 _ _ (s2 _ _ upd_same), ?_⟩
  rw [upd_same, hJ, flat_ref]
theorem get_f {K : PySem.W.Frag} {Cs fIs : Nat → Addr} {σ : L2.St} {H : Hp} {i : Nat} {p a d : Addr} {xs : List V} {k : Int} {v : V} {n : Str} {b : List Value} {nw : String} (e5 : σ[5]? = some (some (.ref p))) (hm : SqL K H p xs) (hk : atI xs k = some (.ref a))
    (E : Err K (Cs i) (fIs i) (flOf i) b nw) (e : EAt Cs H i a d v) (hn : (flOf i).s = n) (Q : VK) (q : Q v H) : tErrF K n (tOp (rIxL K) (tVar 5) (tC (.int k))) σ H Q :=
  ⟨_, e5, p, _, _, _, rfl, rfl, hm, hk, a, Cs i, d, fIs i, flOf i, b, nw, v, rfl, hn, E, e.a, by rw [← hn]; exact e.d, q⟩
theorem neD_same {K : PySem.W.Frag} {x y : V} {H : Hp} {Q : VK} {d : PyData} (h1 : Dp K H x d) (h2 : Dp K H y d) (sh : SeqAt.shaped d = true) (ev : PyData.eqv d d = true) (q : Q (.bl false) H) : rNeD K x y H Q := ⟨d, d, h1, h2, sh, sh, by rw [ev]; exact q⟩
theorem dp_bools {K : PySem.W.Frag} {H : Hp} : ∀ bs : List Bool, DpAll K H (bs.map V.bl) (bs.map PyData.bool)
  | [] => .nil
  | b :: r => .cons (.bl b) (dp_bools r)
def dOwn (i : Nat) : PyData := .list (((List.range 13).map fun m => decide (i = m)).map PyData.bool)
def dRow (i : Nat) : PyData := .list ((krow i).map PyData.bool)
theorem own_sh : ∀ i, i < 13 → SeqAt.shaped (dOwn i) = true := by decide +kernel
theorem own_eq : ∀ i, i < 13 → PyData.eqv (dOwn i) (dOwn i) = true := by decide +kernel
theorem row_sh : ∀ i, i < 13 → SeqAt.shaped (dRow i) = true := by decide +kernel
theorem row_eq : ∀ i, i < 13 → PyData.eqv (dRow i) (dRow i) = true := by decide +kernel
theorem dp_own {K : PySem.W.Frag} {H : Hp} {p : Addr} {i : Nat} (h : H p = some (.lst ((List.range 13).map fun j => .bl (decide (i = j))))) : Dp K H (.ref p) (dOwn i) := by
  refine .lst (SqL.of h) ?_
  have e : ((List.range 13).map fun j => V.bl (decide (i = j))) = ((List.range 13).map fun m => decide (i = m)).map V.bl := by rw [List.map_map]; rfl
  rw [e]
  exact dp_bools _
theorem dp_row {K : PySem.W.Frag} {H : Hp} {p : Addr} {i : Nat} (h : H p = some (.lst ((krow i).map V.bl))) : Dp K H (.ref p) (dRow i) := .lst (SqL.of h) (dp_bools _)
theorem dec_at (i j : Nat) : decide (V.int (i : Int) = V.int (0 + (j : Int))) = decide (i = j) := by
  by_cases h : i = j
  · rw [decide_eq_true h, decide_eq_true (by rw [h, Int.zero_add])]
  · rw [decide_eq_false h, decide_eq_false (fun z => h (by have := V.int.inj z; omega))]
section
variable {P : Program} {w : World} {K : PySem.W.Frag} {mg : Str → Option Value} {base : Heap} {f : Addr} {fd : FuncData} {Cs fIs : Nat → Addr} {fT fD fW fC fK : Addr} {dT dD dW dC dK : FuncData}
theorem ok_law (F : FnP K "law" sLaw f fd) (C : Defs K mg fT fD fW fC fK dT dD dW dC dK) (T : Txt K mg Cs fIs) : FnOk P w K mg base CX0 13 f fd ["_law_script"] (spLaw K) := by
  have GT : FnOk P w K mg base CX0 1 fT dT ["_law_script"] (spTape K) := ok_tape C.FT
  have GD : FnOk P w K mg base CX0 11 fD dD ["_law_tape_here", "_law_many"] (spDraw 11) := all_draw C.FD C.bD C.gD C.ml 11 (by decide)
  have GW : FnOk P w K mg base CX0 12 fW dW ["_law_tape_here", "_law_many"] (spWords K) := ok_words (by decide) C.FW GD C.bD C.gD C.kD C.mr
  have GC : FnOk P w K mg base CX0 1 fC dC ["_law_error"] (spClasses Cs) := ok_classes C.FC T
  have GK : FnOk P w K mg base CX0 1 fK dK ["_law_error"] (spKinds Cs) := ok_kinds C.FK T
  obtain ⟨b0, w0, E0⟩ := T.er 0 (by decide)
  obtain ⟨b1, w1, E1⟩ := T.er 1 (by decide)
  obtain ⟨b2, w2, E2⟩ := T.er 2 (by decide)
  obtain ⟨b3, w3, E3⟩ := T.er 3 (by decide)
  obtain ⟨b4, w4, E4⟩ := T.er 4 (by decide)
  obtain ⟨b5, w5, E5⟩ := T.er 5 (by decide)
  obtain ⟨b6, w6, E6⟩ := T.er 6 (by decide)
  obtain ⟨b7, w7, E7⟩ := T.er 7 (by decide)
  obtain ⟨b8, w8, E8⟩ := T.er 8 (by decide)
  obtain ⟨b9, w9, E9⟩ := T.er 9 (by decide)
  obtain ⟨b10, w10, E10⟩ := T.er 10 (by decide)
  obtain ⟨b11, w11, E11⟩ := T.er 11 (by decide)
  obtain ⟨b12, w12, E12⟩ := T.er 12 (by decide)
  refine F.ok scLaw (fun vs H Q E h => ?_) (fun cdv A outer s H vs Q E hr h => ?_)
  · obtain ⟨a, ns, rfl, _⟩ := h
    rfl
  obtain ⟨a, ns, rfl, hS, q⟩ := h
  have hr1 : Room 1 _ := hr.mono (by decide)
  have hr11 : Room 11 _ := hr.mono (by decide)
  refine ⟨_, PSs.nox (pss_cons (ps_set (i := 1) scLaw.nd rfl (Or.inl rfl) (pe_call GT hr1 (by rfl) C.gT C.kT C.bT .nil pass0 (pa_cons (pv 0) pa_nil)))
 (pss_cons (ps_set (i := 2) scLaw.nd rfl (Or.inl rfl) (pe_ix ix_list (pe_call GW hr (by rfl) C.gW C.kW C.bW .nil pass0 (pa_cons (pv 1) (pa_cons pe_int pa_nil))) pe_int (fun _ _ => rfl)))
 (pss_cons (ps_set (i := 3) scLaw.nd rfl (Or.inl rfl) (pe_call GD hr11 (by rfl) C.gD C.kD C.bD .nil pass0 (pa_cons (pv 1) (pa_cons (pe_op op_pow pe_int pe_int) pa_nil))))
 (pss_cons (ps_set (i := 4) scLaw.nd rfl (Or.inl rfl) (pe_lst (pa_cons (pv 3) (pa_cons (pv 2) (pa_cons (pe_tup (pa_cons (pv 3) (pa_cons (pv 2) pa_nil))) (pa_cons (pe_disp (pps_cons (pv 2) pe_bl pps_nil) (by rfl) (by rfl) (fun z => by cases z) (by decide)) pa_nil))))))
 (pss_cons (ps_set (i := 5) scLaw.nd rfl (Or.inl rfl) (pe_lst (pa_cons (pe_err E0 hr (T.g 0 _ rfl) (pa_cons (pv 3) pa_nil)) (pa_cons (pe_err E1 hr (T.g 1 _ rfl) (pa_cons (pv 2) pa_nil)) (pa_cons (pe_err E2 hr (T.g 2 _ rfl) (pa_cons (pv 2) pa_nil)) (pa_cons (pe_err E3 hr (T.g 3 _ rfl) (pa_cons (pv 2) pa_nil)) (pa_cons (pe_err E4 hr (T.g 4 _ rfl) (pa_cons (pv 3) pa_nil)) (pa_cons (pe_err E5 hr (T.g 5 _ rfl) (pa_cons (pv 2) pa_nil)) (pa_cons (pe_err E6 hr (T.g 6 _ rfl) (pa_cons (pv 2) pa_nil)) pa_nil)))))))))
 (pss_cons (ps_set (i := 5) scLaw.nd rfl (Or.inl rfl) (pe_op op_cat (pv 5) (pe_lst (pa_cons (pe_err E7 hr (T.g 7 _ rfl) (pa_cons (pv 3) pa_nil)) (pa_cons (pe_err E8 hr (T.g 8 _ rfl) (pa_cons (pe_ix ix_list (pv 4) pe_int (fun _ _ => rfl)) pa_nil)) (pa_cons (pe_err E9 hr (T.g 9 _ rfl) (pa_cons (pe_ix ix_list (pv 4) pe_int (fun _ _ => rfl)) pa_nil)) (pa_cons (pe_err E10 hr (T.g 10 _ rfl) (pa_cons (pe_ix ix_list (pv 4) pe_int (fun _ _ => rfl)) pa_nil)) (pa_cons (pe_err E11 hr (T.g 11 _ rfl) (pa_cons (pv 3) pa_nil)) pa_nil))))))))
 (pss_cons (ps_expr (pe_bm PySem.F.plainAttrs_list PySem.F.slot_list_append PySem.F.type_list_append mt_append (pv 5) (pa_cons (pe_err E12 hr (T.g 12 _ rfl) (pa_cons (pv 3) pa_nil)) pa_nil)))
 (pss_cons (ps_set (i := 6) scLaw.nd rfl (Or.inl rfl) (pe_op op_cat (pe_op op_rep (pe_lst (pa_cons (pe_lst (pa_cons pe_bl (pa_cons pe_bl (pa_cons pe_bl (pa_cons pe_bl (pa_cons pe_bl pa_nil)))))) pa_nil)) pe_int) (pe_op op_rep (pe_lst (pa_cons (pe_lst (pa_cons pe_bl (pa_cons pe_bl (pa_cons pe_bl (pa_cons pe_bl (pa_cons pe_bl pa_nil)))))) pa_nil)) pe_int)))
 (pss_cons (ps_set (i := 6) scLaw.nd rfl (Or.inl rfl) (pe_op op_cat (pe_op op_cat (pv 6) (pe_lst (pa_cons (pe_lst (pa_cons pe_bl (pa_cons pe_bl (pa_cons pe_bl (pa_cons pe_bl (pa_cons pe_bl pa_nil)))))) pa_nil))) (pe_op op_rep (pe_lst (pa_cons (pe_lst (pa_cons pe_bl (pa_cons pe_bl (pa_cons pe_bl (pa_cons pe_bl (pa_cons pe_bl pa_nil)))))) pa_nil)) pe_int)))
 (pss_cons (ps_set (i := 6) scLaw.nd rfl (Or.inl rfl) (pe_op op_cat (pv 6) (pe_op op_rep (pe_lst (pa_cons (pe_lst (pa_cons pe_bl (pa_cons pe_bl (pa_cons pe_bl (pa_cons pe_bl (pa_cons pe_bl pa_nil)))))) pa_nil)) pe_int)))
 (pss_cons (ps_for PassesOwn.never rfl (pi_enum (by rfl) C.me (pa_cons (pv 5) pa_nil)) (pg_tup (by rfl) (pgs_cons (pg_name (i := 7) scLaw.nd rfl (Or.inr rfl)) (pgs_cons (pg_name (i := 8) scLaw.nd rfl (Or.inl rfl)) pgs_nil)))
 (pss_one (ps_if (PW.pt (pw_or (pt_cmpR (op_neD hr.units) (pe_call GC hr1 (by rfl) C.gC C.kC C.bC .nil pass0 (pa_cons (pv 8) pa_nil)) (pe_lc (own := [("_law_other", 11)]) (g := gName 11) (tt := tYes) (by rfl) scLaw.nd (pi_range1 (by rfl) C.mr (pa_cons pe_int pa_nil)) (blkOk_by (own := [("_law_other", 11)]) (N := ["_law_script", "_law_tape_here", "_law_word", "_law_number", "_law_values", "_law_made", "_law_kinds_here", "_law_k", "_law_error", "_law_found", "_law_due", "_law_other"]) (sc := defScope sLaw) (by decide +kernel)) (fun _ _ _ _ _ => pg_name (i := 11) scLaw.nd rfl (Or.inl rfl)) (fun _ _ _ _ _ => pts_nil) (fun _ _ _ _ _ => (pe_cmpR op_eq (pv 7) (pv 11) (nomark _)))) (nomark _)) (pw_or1 (pt_cmpR (op_neD hr.units) (pe_call GK hr1 (by rfl) C.gK C.kK C.bK .nil pass0 (pa_cons (pv 8) pa_nil)) (pe_ix ix_list (pv 6) (pv 7) (fun _ _ => rfl)) (nomark _)))))
 (pss_one (ps_ret pe_bl)) pss_nil)))
 (pss_cons (ps_set (i := 9) scLaw.nd rfl (Or.inl rfl) (pe_lst (pa_cons (pe_errF (pe_ix ix_list (pv 5) pe_int (fun _ _ => rfl))) (pa_cons (pe_errF (pe_ix ix_list (pv 5) pe_int (fun _ _ => rfl))) (pa_cons (pe_errF (pe_ix ix_list (pv 5) pe_int (fun _ _ => rfl))) (pa_cons (pe_errF (pe_ix ix_list (pv 5) pe_int (fun _ _ => rfl))) (pa_cons (pe_errF (pe_ix ix_list (pv 5) pe_int (fun _ _ => rfl))) (pa_cons (pe_errF (pe_ix ix_list (pv 5) pe_int (fun _ _ => rfl))) (pa_cons (pe_errF (pe_ix ix_list (pv 5) pe_int (fun _ _ => rfl))) pa_nil)))))))))
 (pss_cons (ps_set (i := 9) scLaw.nd rfl (Or.inl rfl) (pe_op op_cat (pv 9) (pe_lst (pa_cons (pe_errF (pe_ix ix_list (pv 5) pe_int (fun _ _ => rfl))) (pa_cons (pe_errF (pe_ix ix_list (pv 5) pe_int (fun _ _ => rfl))) (pa_cons (pe_errF (pe_ix ix_list (pv 5) pe_int (fun _ _ => rfl))) (pa_cons (pe_errF (pe_ix ix_list (pv 5) pe_int (fun _ _ => rfl))) (pa_cons (pe_errF (pe_ix ix_list (pv 5) pe_int (fun _ _ => rfl))) (pa_cons (pe_errF (pe_ix ix_list (pv 5) pe_int (fun _ _ => rfl))) pa_nil)))))))))
 (pss_cons (ps_set (i := 10) scLaw.nd rfl (Or.inl rfl) (pe_lst (pa_cons (pv 3) (pa_cons (pv 2) (pa_cons (pv 2) (pa_cons (pv 2) (pa_cons (pv 3) (pa_cons (pv 2) (pa_cons (pv 2) (pa_cons (pv 3) (pa_cons (pe_ix ix_list (pv 4) pe_int (fun _ _ => rfl)) (pa_cons (pe_ix ix_list (pv 4) pe_int (fun _ _ => rfl)) (pa_cons (pe_ix ix_list (pv 4) pe_int (fun _ _ => rfl)) (pa_cons (pv 3) (pa_cons (pv 3) pa_nil)))))))))))))))
 (pss_one (ps_ret (pe_cmpR (op_eqV hr.units) (pv 9) (pv 10) (nomark _)))))))))))))))))), ?_⟩
  refine ⟨_, rfl, a, ns, rfl, hS, fun H1 Tp L t1 s1 nT nL => ?_⟩
  refine ⟨_, rfl, Tp, L, 1, 0, rfl, by decide, by decide, t1, fun H2 pw ws hl hw ew nw t2 k2 => ?_⟩
  obtain ⟨z, rfl⟩ : ∃ z, ws = [z] := by
    match ws, hl with
    | [z], _ => exact ⟨z, rfl⟩
  refine ⟨pw, _, _, .str z, rfl, rfl, SqL.of ew, rfl, ?_⟩
  refine ⟨_, rfl, _, _, rfl, rfl, ⟨by decide, by decide, by decide⟩, Tp, L, _, _, rfl, by decide +kernel, by decide +kernel, by decide, t2, fun H3 num r0 r1 t3 k3 => ?_⟩
  -- values
  refine ⟨_, rfl, _, rfl, _, rfl, _, rfl, (by show 2 ≤ sizeLine; decide), fun pt nt pd nd => ⟨_, rfl, upd_same, [((Sum.inr z : Key), V.bl true)], rfl, (by show 1 ≤ 15; decide), (by show 4 ≤ sizeLine; decide), fun pv nv => ?_⟩⟩
  have evs : (upd (upd (upd (upd H3 pt (.tup [.int num, .str z])) pd (.dK [])) pd (.dK (mergeK [] [((Sum.inr z : Key), V.bl true)]))) pv (.lst [.int num, .str z, .ref pt, .ref pd])) pv = some (.lst [.int num, .str z, .ref pt, .ref pd]) := upd_same
  generalize (upd (upd (upd (upd H3 pt (.tup [.int num, .str z])) pd (.dK [])) pd (.dK (mergeK [] [((Sum.inr z : Key), V.bl true)]))) pv (.lst [.int num, .str z, .ref pt, .ref pd])) = HV at evs ⊢
  -- the first seven
  refine ⟨_, rfl, _, rfl, fun a0 d0 na0 nd0 ne0 => ?_⟩
  have N0 := err_new (Cs := Cs) (i := 0) (v := .int num) na0 nd0 ne0
  generalize upd (upd HV d0 (exd d0 [((flOf 0).s, .int num)])) a0 (exo a0 (Cs 0) (some d0)) = A0 at N0 ⊢
  obtain ⟨S0, x0⟩ := N0
  refine ⟨_, rfl, _, rfl, fun a1 d1 na1 nd1 ne1 => ?_⟩
  have N1 := err_new (Cs := Cs) (i := 1) (v := .str z) na1 nd1 ne1
  generalize upd (upd A0 d1 (exd d1 [((flOf 1).s, .str z)])) a1 (exo a1 (Cs 1) (some d1)) = A1 at N1 ⊢
  obtain ⟨S1, x1⟩ := N1
  refine ⟨_, rfl, _, rfl, fun a2 d2 na2 nd2 ne2 => ?_⟩
  have N2 := err_new (Cs := Cs) (i := 2) (v := .str z) na2 nd2 ne2
  generalize upd (upd A1 d2 (exd d2 [((flOf 2).s, .str z)])) a2 (exo a2 (Cs 2) (some d2)) = A2 at N2 ⊢
  obtain ⟨S2, x2⟩ := N2
  refine ⟨_, rfl, _, rfl, fun a3 d3 na3 nd3 ne3 => ?_⟩
  have N3 := err_new (Cs := Cs) (i := 3) (v := .str z) na3 nd3 ne3
  generalize upd (upd A2 d3 (exd d3 [((flOf 3).s, .str z)])) a3 (exo a3 (Cs 3) (some d3)) = A3 at N3 ⊢
  obtain ⟨S3, x3⟩ := N3
  refine ⟨_, rfl, _, rfl, fun a4 d4 na4 nd4 ne4 => ?_⟩
  have N4 := err_new (Cs := Cs) (i := 4) (v := .int num) na4 nd4 ne4
  generalize upd (upd A3 d4 (exd d4 [((flOf 4).s, .int num)])) a4 (exo a4 (Cs 4) (some d4)) = A4 at N4 ⊢
  obtain ⟨S4, x4⟩ := N4
  refine ⟨_, rfl, _, rfl, fun a5 d5 na5 nd5 ne5 => ?_⟩
  have N5 := err_new (Cs := Cs) (i := 5) (v := .str z) na5 nd5 ne5
  generalize upd (upd A4 d5 (exd d5 [((flOf 5).s, .str z)])) a5 (exo a5 (Cs 5) (some d5)) = A5 at N5 ⊢
  obtain ⟨S5, x5⟩ := N5
  refine ⟨_, rfl, _, rfl, fun a6 d6 na6 nd6 ne6 => ?_⟩
  have N6 := err_new (Cs := Cs) (i := 6) (v := .str z) na6 nd6 ne6
  generalize upd (upd A5 d6 (exd d6 [((flOf 6).s, .str z)])) a6 (exo a6 (Cs 6) (some d6)) = A6 at N6 ⊢
  obtain ⟨S6, x6⟩ := N6
  refine ⟨(by show 7 ≤ sizeLine; decide), fun p1 n1 => ?_⟩
  have M1 := same_new n1 (.lst [.ref a0, .ref a1, .ref a2, .ref a3, .ref a4, .ref a5, .ref a6])
  have g1 : (upd A6 p1 (.lst [.ref a0, .ref a1, .ref a2, .ref a3, .ref a4, .ref a5, .ref a6])) p1 = some (.lst [.ref a0, .ref a1, .ref a2, .ref a3, .ref a4, .ref a5, .ref a6]) := upd_same
  generalize upd A6 p1 (.lst [.ref a0, .ref a1, .ref a2, .ref a3, .ref a4, .ref a5, .ref a6]) = B1 at M1 g1 ⊢
  have evB : B1 pv = some (.lst [.int num, .str z, .ref pt, .ref pd]) := M1 _ _ (S6 _ _ (S5 _ _ (S4 _ _ (S3 _ _ (S2 _ _ (S1 _ _ (S0 _ _ evs)))))))
  -- the next five
  refine ⟨_, rfl, ?_⟩
  refine ⟨_, rfl, _, rfl, fun a7 d7 na7 nd7 ne7 => ?_⟩
  have N7 := err_new (Cs := Cs) (i := 7) (v := .int num) na7 nd7 ne7
  generalize upd (upd B1 d7 (exd d7 [((flOf 7).s, .int num)])) a7 (exo a7 (Cs 7) (some d7)) = A7 at N7 ⊢
  obtain ⟨S7, x7⟩ := N7
  refine ⟨_, rfl, pv, _, _, _, rfl, rfl, SqL.of (S7 _ _ evB), rfl, _, rfl, fun a8 d8 na8 nd8 ne8 => ?_⟩
  have N8 := err_new (Cs := Cs) (i := 8) (v := .ref pt) na8 nd8 ne8
  generalize upd (upd A7 d8 (exd d8 [((flOf 8).s, .ref pt)])) a8 (exo a8 (Cs 8) (some d8)) = A8 at N8 ⊢
  obtain ⟨S8, x8⟩ := N8
  refine ⟨_, rfl, pv, _, _, _, rfl, rfl, SqL.of (S8 _ _ (S7 _ _ evB)), rfl, _, rfl, fun a9 d9 na9 nd9 ne9 => ?_⟩
  have N9 := err_new (Cs := Cs) (i := 9) (v := .ref pt) na9 nd9 ne9
  generalize upd (upd A8 d9 (exd d9 [((flOf 9).s, .ref pt)])) a9 (exo a9 (Cs 9) (some d9)) = A9 at N9 ⊢
  obtain ⟨S9, x9⟩ := N9
  refine ⟨_, rfl, pv, _, _, _, rfl, rfl, SqL.of (S9 _ _ (S8 _ _ (S7 _ _ evB))), rfl, _, rfl, fun a10 d10 na10 nd10 ne10 => ?_⟩
  have N10 := err_new (Cs := Cs) (i := 10) (v := .ref pd) na10 nd10 ne10
  generalize upd (upd A9 d10 (exd d10 [((flOf 10).s, .ref pd)])) a10 (exo a10 (Cs 10) (some d10)) = A10 at N10 ⊢
  obtain ⟨S10, x10⟩ := N10
  refine ⟨_, rfl, _, rfl, fun a11 d11 na11 nd11 ne11 => ?_⟩
  have N11 := err_new (Cs := Cs) (i := 11) (v := .int num) na11 nd11 ne11
  generalize upd (upd A10 d11 (exd d11 [((flOf 11).s, .int num)])) a11 (exo a11 (Cs 11) (some d11)) = A11 at N11 ⊢
  obtain ⟨S11, x11⟩ := N11
  refine ⟨(by show 5 ≤ sizeLine; decide), fun p2 n2 => ?_⟩
  have M2 := same_new n2 (.lst [.ref a7, .ref a8, .ref a9, .ref a10, .ref a11])
  have g12 := M2 _ _ (S11 _ _ (S10 _ _ (S9 _ _ (S8 _ _ (S7 _ _ g1)))))
  refine ⟨p1, p2, _, _, rfl, rfl, g12, upd_same, (by show 12 ≤ sizeLine; decide), fun p3 n3 => ?_⟩
  have M3 := same_new n3 (.lst ([.ref a0, .ref a1, .ref a2, .ref a3, .ref a4, .ref a5, .ref a6] ++ [.ref a7, .ref a8, .ref a9, .ref a10, .ref a11]))
  have g3 : (upd (upd A11 p2 (.lst [.ref a7, .ref a8, .ref a9, .ref a10, .ref a11])) p3 (.lst ([.ref a0, .ref a1, .ref a2, .ref a3, .ref a4, .ref a5, .ref a6] ++ [.ref a7, .ref a8, .ref a9, .ref a10, .ref a11]))) p3 = some (.lst [.ref a0, .ref a1, .ref a2, .ref a3, .ref a4, .ref a5, .ref a6, .ref a7, .ref a8, .ref a9, .ref a10, .ref a11]) := upd_same
  have M23 := M2.trans M3
  generalize (upd (upd A11 p2 (.lst [.ref a7, .ref a8, .ref a9, .ref a10, .ref a11])) p3 (.lst ([.ref a0, .ref a1, .ref a2, .ref a3, .ref a4, .ref a5, .ref a6] ++ [.ref a7, .ref a8, .ref a9, .ref a10, .ref a11]))) = B3 at M23 g3 ⊢
  -- append
  refine ⟨_, rfl, .inl ⟨rfl, _, SqL.of g3⟩, ?_⟩
  refine ⟨_, rfl, _, rfl, fun a12 d12 na12 nd12 ne12 => ?_⟩
  have N12 := err_new (Cs := Cs) (i := 12) (v := .int num) na12 nd12 ne12
  generalize upd (upd B3 d12 (exd d12 [((flOf 12).s, .int num)])) a12 (exo a12 (Cs 12) (some d12)) = A12 at N12 ⊢
  obtain ⟨S12, x12⟩ := N12
  have g4 := S12 _ _ g3
  refine ⟨p3, _, _, rfl, rfl, g4, small1000 (by show 12 ≤ 1000; decide), ?_⟩
  have U11 := M23.trans S12
  have U10 := S11.trans U11
  have U9 := S10.trans U10
  have U8 := S9.trans U9
  have U7 := S8.trans U8
  have U6 := (M1.trans S7).trans U7
  have U5 := S6.trans U6
  have U4 := S5.trans U5
  have U3 := S4.trans U4
  have U2 := S3.trans U3
  have U1 := S2.trans U2
  have U0 := S1.trans U1
  have gM : (upd A12 p3 (.lst ([.ref a0, .ref a1, .ref a2, .ref a3, .ref a4, .ref a5, .ref a6, .ref a7, .ref a8, .ref a9, .ref a10, .ref a11] ++ [.ref a12]))) p3 = some (.lst [.ref a0, .ref a1, .ref a2, .ref a3, .ref a4, .ref a5, .ref a6, .ref a7, .ref a8, .ref a9, .ref a10, .ref a11, .ref a12]) := upd_same
  have y0 := (x0.same U0).put g4 (o := .lst ([.ref a0, .ref a1, .ref a2, .ref a3, .ref a4, .ref a5, .ref a6, .ref a7, .ref a8, .ref a9, .ref a10, .ref a11] ++ [.ref a12]))
  have y1 := (x1.same U1).put g4 (o := .lst ([.ref a0, .ref a1, .ref a2, .ref a3, .ref a4, .ref a5, .ref a6, .ref a7, .ref a8, .ref a9, .ref a10, .ref a11] ++ [.ref a12]))
  have y2 := (x2.same U2).put g4 (o := .lst ([.ref a0, .ref a1, .ref a2, .ref a3, .ref a4, .ref a5, .ref a6, .ref a7, .ref a8, .ref a9, .ref a10, .ref a11] ++ [.ref a12]))
  have y3 := (x3.same U3).put g4 (o := .lst ([.ref a0, .ref a1, .ref a2, .ref a3, .ref a4, .ref a5, .ref a6, .ref a7, .ref a8, .ref a9, .ref a10, .ref a11] ++ [.ref a12]))
  have y4 := (x4.same U4).put g4 (o := .lst ([.ref a0, .ref a1, .ref a2, .ref a3, .ref a4, .ref a5, .ref a6, .ref a7, .ref a8, .ref a9, .ref a10, .ref a11] ++ [.ref a12]))
  have y5 := (x5.same U5).put g4 (o := .lst ([.ref a0, .ref a1, .ref a2, .ref a3, .ref a4, .ref a5, .ref a6, .ref a7, .ref a8, .ref a9, .ref a10, .ref a11] ++ [.ref a12]))
  have y6 := (x6.same U6).put g4 (o := .lst ([.ref a0, .ref a1, .ref a2, .ref a3, .ref a4, .ref a5, .ref a6, .ref a7, .ref a8, .ref a9, .ref a10, .ref a11] ++ [.ref a12]))
  have y7 := (x7.same U7).put g4 (o := .lst ([.ref a0, .ref a1, .ref a2, .ref a3, .ref a4, .ref a5, .ref a6, .ref a7, .ref a8, .ref a9, .ref a10, .ref a11] ++ [.ref a12]))
  have y8 := (x8.same U8).put g4 (o := .lst ([.ref a0, .ref a1, .ref a2, .ref a3, .ref a4, .ref a5, .ref a6, .ref a7, .ref a8, .ref a9, .ref a10, .ref a11] ++ [.ref a12]))
  have y9 := (x9.same U9).put g4 (o := .lst ([.ref a0, .ref a1, .ref a2, .ref a3, .ref a4, .ref a5, .ref a6, .ref a7, .ref a8, .ref a9, .ref a10, .ref a11] ++ [.ref a12]))
  have y10 := (x10.same U10).put g4 (o := .lst ([.ref a0, .ref a1, .ref a2, .ref a3, .ref a4, .ref a5, .ref a6, .ref a7, .ref a8, .ref a9, .ref a10, .ref a11] ++ [.ref a12]))
  have y11 := (x11.same U11).put g4 (o := .lst ([.ref a0, .ref a1, .ref a2, .ref a3, .ref a4, .ref a5, .ref a6, .ref a7, .ref a8, .ref a9, .ref a10, .ref a11] ++ [.ref a12]))
  have y12 := x12.put g4 (o := .lst ([.ref a0, .ref a1, .ref a2, .ref a3, .ref a4, .ref a5, .ref a6, .ref a7, .ref a8, .ref a9, .ref a10, .ref a11] ++ [.ref a12]))
  have pvn : pv ≠ p3 := fun e => by
    have y := S12 _ _ (M23 _ _ (S11 _ _ (S10 _ _ (S9 _ _ (S8 _ _ (S7 _ _ evB))))))
    rw [e, g4] at y
    cases y
  have gV : (upd A12 p3 (.lst ([.ref a0, .ref a1, .ref a2, .ref a3, .ref a4, .ref a5, .ref a6, .ref a7, .ref a8, .ref a9, .ref a10, .ref a11] ++ [.ref a12]))) pv = some (.lst [.int num, .str z, .ref pt, .ref pd]) := by
    rw [upd_ne pvn]
    exact S12 _ _ (M23 _ _ (S11 _ _ (S10 _ _ (S9 _ _ (S8 _ _ (S7 _ _ evB))))))
  generalize (upd A12 p3 (.lst ([.ref a0, .ref a1, .ref a2, .ref a3, .ref a4, .ref a5, .ref a6, .ref a7, .ref a8, .ref a9, .ref a10, .ref a11] ++ [.ref a12]))) = HM at gM gV y0 y1 y2 y3 y4 y5 y6 y7 y8 y9 y10 y11 y12 ⊢
  -- the rows
  refine ⟨(by show 5 ≤ sizeLine; decide), fun r1 nr1 => ⟨(by show 1 ≤ sizeLine; decide), fun u1 nu1 => ⟨u1, 5, _, rfl, rfl, upd_same, by decide, by decide, (by show 5 ≤ sizeLine; decide), fun o1 no1 => ?_⟩⟩⟩
  have R1 := row_new (bs := [.bl true, .bl false, .bl false, .bl false, .bl false]) (J := 5) (k := 5) rfl nr1 nu1 no1
  generalize upd (upd (upd HM r1 (.lst [.bl true, .bl false, .bl false, .bl false, .bl false])) u1 (.lst [.ref r1])) o1 (.lst (List.replicate (5 : Int).toNat [V.ref r1]).flatten) = K1 at R1 ⊢
  obtain ⟨T1, h1, w1'⟩ := R1
  refine ⟨(by show 5 ≤ sizeLine; decide), fun r2 nr2 => ⟨(by show 1 ≤ sizeLine; decide), fun u2 nu2 => ⟨u2, 2, _, rfl, rfl, upd_same, by decide, by decide, (by show 2 ≤ sizeLine; decide), fun o2 no2 => ?_⟩⟩⟩
  have R2 := row_new (bs := [.bl false, .bl true, .bl false, .bl true, .bl false]) (J := 2) (k := 2) rfl nr2 nu2 no2
  generalize upd (upd (upd K1 r2 (.lst [.bl false, .bl true, .bl false, .bl true, .bl false])) u2 (.lst [.ref r2])) o2 (.lst (List.replicate (2 : Int).toNat [V.ref r2]).flatten) = K2 at R2 ⊢
  obtain ⟨T2, h2, w2'⟩ := R2
  refine ⟨o1, o2, _, _, rfl, rfl, T2 _ _ w1', w2', small (by show 7 ≤ 1000; decide), fun q1 m1 => ?_⟩
  have V1 := same_new m1 (.lst (List.replicate 5 (V.ref r1) ++ List.replicate 2 (V.ref r2)))
  have c1 : (upd K2 q1 (.lst (List.replicate 5 (V.ref r1) ++ List.replicate 2 (V.ref r2)))) q1 = some (.lst [.ref r1, .ref r1, .ref r1, .ref r1, .ref r1, .ref r2, .ref r2]) := upd_same
  generalize (upd K2 q1 (.lst (List.replicate 5 (V.ref r1) ++ List.replicate 2 (V.ref r2)))) = L1 at V1 c1 ⊢
  refine ⟨_, rfl, (by show 5 ≤ sizeLine; decide), fun r3 nr3 => ⟨(by show 1 ≤ sizeLine; decide), fun o3 no3 => ?_⟩⟩
  have V2 := (same_new nr3 (.lst [.bl false, .bl false, .bl true, .bl true, .bl false])).trans (same_new no3 (.lst [.ref r3]))
  have h3 : (upd (upd L1 r3 (.lst [.bl false, .bl false, .bl true, .bl true, .bl false])) o3 (.lst [.ref r3])) r3 = some (.lst [.bl false, .bl false, .bl true, .bl true, .bl false]) := same_new no3 _ _ _ upd_same
  have w3' : (upd (upd L1 r3 (.lst [.bl false, .bl false, .bl true, .bl true, .bl false])) o3 (.lst [.ref r3])) o3 = some (.lst [.ref r3]) := upd_same
  generalize (upd (upd L1 r3 (.lst [.bl false, .bl false, .bl true, .bl true, .bl false])) o3 (.lst [.ref r3])) = L2' at V2 h3 w3' ⊢
  refine ⟨q1, o3, _, _, rfl, rfl, V2 _ _ c1, w3', small (by show 8 ≤ 1000; decide), fun q2 m2 => ?_⟩
  have V3 := same_new m2 (.lst ([.ref r1, .ref r1, .ref r1, .ref r1, .ref r1, .ref r2, .ref r2] ++ [.ref r3]))
  have c2 : (upd L2' q2 (.lst ([.ref r1, .ref r1, .ref r1, .ref r1, .ref r1, .ref r2, .ref r2] ++ [.ref r3]))) q2 = some (.lst [.ref r1, .ref r1, .ref r1, .ref r1, .ref r1, .ref r2, .ref r2, .ref r3]) := upd_same
  generalize (upd L2' q2 (.lst ([.ref r1, .ref r1, .ref r1, .ref r1, .ref r1, .ref r2, .ref r2] ++ [.ref r3]))) = L3 at V3 c2 ⊢
  refine ⟨(by show 5 ≤ sizeLine; decide), fun r4 nr4 => ⟨(by show 1 ≤ sizeLine; decide), fun u4 nu4 => ⟨u4, 3, _, rfl, rfl, upd_same, by decide, by decide, (by show 3 ≤ sizeLine; decide), fun o4 no4 => ?_⟩⟩⟩
  have R4 := row_new (bs := [.bl false, .bl false, .bl false, .bl true, .bl false]) (J := 3) (k := 3) rfl nr4 nu4 no4
  generalize upd (upd (upd L3 r4 (.lst [.bl false, .bl false, .bl false, .bl true, .bl false])) u4 (.lst [.ref r4])) o4 (.lst (List.replicate (3 : Int).toNat [V.ref r4]).flatten) = K4 at R4 ⊢
  obtain ⟨T4, h4, w4'⟩ := R4
  refine ⟨q2, o4, _, _, rfl, rfl, T4 _ _ c2, w4', small (by show 11 ≤ 1000; decide), fun q3 m3 => ?_⟩
  have V4 := same_new m3 (.lst ([.ref r1, .ref r1, .ref r1, .ref r1, .ref r1, .ref r2, .ref r2, .ref r3] ++ List.replicate 3 (V.ref r4)))
  have c3 : (upd K4 q3 (.lst ([.ref r1, .ref r1, .ref r1, .ref r1, .ref r1, .ref r2, .ref r2, .ref r3] ++ List.replicate 3 (V.ref r4)))) q3 = some (.lst [.ref r1, .ref r1, .ref r1, .ref r1, .ref r1, .ref r2, .ref r2, .ref r3, .ref r4, .ref r4, .ref r4]) := upd_same
  generalize (upd K4 q3 (.lst ([.ref r1, .ref r1, .ref r1, .ref r1, .ref r1, .ref r2, .ref r2, .ref r3] ++ List.replicate 3 (V.ref r4)))) = L4 at V4 c3 ⊢
  refine ⟨_, rfl, ?_⟩
  refine ⟨(by show 5 ≤ sizeLine; decide), fun r5 nr5 => ⟨(by show 1 ≤ sizeLine; decide), fun u5 nu5 => ⟨u5, 2, _, rfl, rfl, upd_same, by decide, by decide, (by show 2 ≤ sizeLine; decide), fun o5 no5 => ?_⟩⟩⟩
  have R5 := row_new (bs := [.bl false, .bl false, .bl false, .bl false, .bl true]) (J := 2) (k := 2) rfl nr5 nu5 no5
  generalize upd (upd (upd L4 r5 (.lst [.bl false, .bl false, .bl false, .bl false, .bl true])) u5 (.lst [.ref r5])) o5 (.lst (List.replicate (2 : Int).toNat [V.ref r5]).flatten) = K5 at R5 ⊢
  obtain ⟨T5, h5, w5'⟩ := R5
  refine ⟨q3, o5, _, _, rfl, rfl, T5 _ _ c3, w5', small (by show 13 ≤ 1000; decide), fun pk mk => ?_⟩
  have V5 := same_new mk (.lst ([.ref r1, .ref r1, .ref r1, .ref r1, .ref r1, .ref r2, .ref r2, .ref r3, .ref r4, .ref r4, .ref r4] ++ List.replicate 2 (V.ref r5)))
  have gK : (upd K5 pk (.lst ([.ref r1, .ref r1, .ref r1, .ref r1, .ref r1, .ref r2, .ref r2, .ref r3, .ref r4, .ref r4, .ref r4] ++ List.replicate 2 (V.ref r5)))) pk = some (.lst [.ref r1, .ref r1, .ref r1, .ref r1, .ref r1, .ref r2, .ref r2, .ref r3, .ref r4, .ref r4, .ref r4, .ref r5, .ref r5]) := upd_same
  generalize (upd K5 pk (.lst ([.ref r1, .ref r1, .ref r1, .ref r1, .ref r1, .ref r2, .ref r2, .ref r3, .ref r4, .ref r4, .ref r4] ++ List.replicate 2 (V.ref r5)))) = HK at V5 gK ⊢
  have W5 := V5
  have W4 := (V4.trans T5).trans V5
  have W3 := T4.trans W4
  have W2 := V3.trans W3
  have W1 := (V1.trans V2).trans W2
  have W0 := (T1.trans T2).trans W1
  have gM' := W0 _ _ gM
  have gV' := W0 _ _ gV
  have all : ∀ i, i < 13 → ∃ a d, ([.ref a0, .ref a1, .ref a2, .ref a3, .ref a4, .ref a5, .ref a6, .ref a7, .ref a8, .ref a9, .ref a10, .ref a11, .ref a12] : List V)[i]? = some (.ref a) ∧ EAt Cs HK i a d (([.int num, .str z, .str z, .str z, .int num, .str z, .str z, .int num, .ref pt, .ref pt, .ref pd, .int num, .int num] : List V).getD i .non) := fun i hi => match i, hi with
    | 0, _ => ⟨a0, d0, rfl, y0.same W0⟩
    | 1, _ => ⟨a1, d1, rfl, y1.same W0⟩
    | 2, _ => ⟨a2, d2, rfl, y2.same W0⟩
    | 3, _ => ⟨a3, d3, rfl, y3.same W0⟩
    | 4, _ => ⟨a4, d4, rfl, y4.same W0⟩
    | 5, _ => ⟨a5, d5, rfl, y5.same W0⟩
    | 6, _ => ⟨a6, d6, rfl, y6.same W0⟩
    | 7, _ => ⟨a7, d7, rfl, y7.same W0⟩
    | 8, _ => ⟨a8, d8, rfl, y8.same W0⟩
    | 9, _ => ⟨a9, d9, rfl, y9.same W0⟩
    | 10, _ => ⟨a10, d10, rfl, y10.same W0⟩
    | 11, _ => ⟨a11, d11, rfl, y11.same W0⟩
    | 12, _ => ⟨a12, d12, rfl, y12.same W0⟩
    | n + 13, h => absurd h (by omega)
  have rowsAll : ∀ i, i < 13 → ∃ r, ([.ref r1, .ref r1, .ref r1, .ref r1, .ref r1, .ref r2, .ref r2, .ref r3, .ref r4, .ref r4, .ref r4, .ref r5, .ref r5] : List V)[i]? = some (.ref r) ∧ HK r = some (.lst ((krow i).map V.bl)) := fun i hi => match i, hi with
    | 0, _ => ⟨r1, rfl, (T2.trans W1) _ _ h1⟩
    | 1, _ => ⟨r1, rfl, (T2.trans W1) _ _ h1⟩
    | 2, _ => ⟨r1, rfl, (T2.trans W1) _ _ h1⟩
    | 3, _ => ⟨r1, rfl, (T2.trans W1) _ _ h1⟩
    | 4, _ => ⟨r1, rfl, (T2.trans W1) _ _ h1⟩
    | 5, _ => ⟨r2, rfl, W1 _ _ h2⟩
    | 6, _ => ⟨r2, rfl, W1 _ _ h2⟩
    | 7, _ => ⟨r3, rfl, W2 _ _ h3⟩
    | 8, _ => ⟨r4, rfl, W4 _ _ h4⟩
    | 9, _ => ⟨r4, rfl, W4 _ _ h4⟩
    | 10, _ => ⟨r4, rfl, W4 _ _ h4⟩
    | 11, _ => ⟨r5, rfl, W5 _ _ h5⟩
    | 12, _ => ⟨r5, rfl, W5 _ _ h5⟩
    | n + 13, h => absurd h (by omega)
  -- the loop
  refine ⟨_, rfl, p3, _, rfl, SqL.of gM', for_it (walk_enum (K := K) (a := p3) (xs := [.ref a0, .ref a1, .ref a2, .ref a3, .ref a4, .ref a5, .ref a6, .ref a7, .ref a8, .ref a9, .ref a10, .ref a11, .ref a12])) (fun i σ H' => ∃ (kk er : Option V), σ = [some (.ref a), some (.ref Tp), some (.str z), some (.int num), some (.ref pv), some (.ref p3), some (.ref pk), kk, er, none, none, none] ∧ Same HK H') ?_ ?_ ?_ ?_⟩
  · exact ⟨_, _, rfl, Same.refl _⟩
  · rintro i σ H4 _ ⟨kk, er, rfl, sm⟩
    exact SqL.of (sm _ _ gM')
  · rintro i x σ H4 H5 hi ⟨kk, er, rfl, sm⟩ ⟨Tt, x1', x2', rfl, nTt, rfl, f1, f2⟩
    have hi13 : i < 13 := hi
    obtain ⟨ai, di, m1', e1⟩ := all i hi13
    have ex1 : x1' = .int i := (Option.some.inj f1).symm
    have ex2 : x2' = .ref ai := Option.some.inj (f2.symm.trans m1')
    subst ex1
    subst ex2
    have sT := same_new nTt (.tup [.int i, .ref ai])
    have e2 := (e1.same sm).same sT
    refine ⟨Tt, [.int i, .ref ai], rfl, .inl (.inl upd_same), rfl, .int i, [.ref ai], rfl, .ref ai, [], rfl, rfl, ?_⟩
    refine ⟨_, rfl, i, ai, di, _, rfl, hi13, e2, fun H6 pc s6 ec => ?_⟩
    refine ⟨13, rfl, by decide, by decide, fun D nD => lc_range (lo := 0) (n := 13) (fun j H' => H' D = some (.lst ((List.range j).map fun m => .bl (decide (i = m)))) ∧ Same H6 H') ?_ ?_ ?_⟩
    · exact ⟨upd_same, same_new nD _⟩
    · rintro j H7 hj ⟨eD, s7⟩
      refine ⟨rfl, ?_⟩
      refine ⟨_, rfl, _, rfl, rfl, _, eD, (by rw [List.length_map, List.length_range]; exact small1000 (by omega)), ?_, ?_⟩
      · rw [upd_same, List.range_succ, List.map_append, dec_at]
        rfl
      · intro b o h
        rw [upd_ne (ne_of_none h nD)]
        exact s7 _ _ h
    · rintro H7 ⟨eD, s7⟩
      refine neD_same (dp_own (s7 _ _ ec)) (dp_own eD) (own_sh i hi13) (own_eq i hi13) ⟨_, rfl, ?_⟩
      refine iteF ?_
      have e7 := (e2.same s6).same s7
      refine ⟨_, rfl, i, ai, di, _, rfl, hi13, e7, fun H8 pq s8 eq8 => ?_⟩
      have s08 := (((sm.trans sT).trans s6).trans s7).trans s8
      obtain ⟨rr, hr1', hr2'⟩ := rowsAll i hi13
      refine ⟨_, rfl, _, rfl, pk, _, _, _, rfl, rfl, SqL.of (s08 _ _ gK), atI_nat hr1', ?_⟩
      refine neD_same (dp_row eq8) (dp_row (s08 _ _ hr2')) (row_sh i hi13) (row_eq i hi13) ⟨_, rfl, ?_⟩
      refine iteF ?_
      exact ⟨_, _, rfl, s08⟩
  · rintro σ H4 ⟨kk, er, rfl, sm⟩
    have WM := W0.trans sm
    have gM4 := sm _ _ gM'
    have gV4 := sm _ _ gV'
    have f0 := y0.same WM
    have f1 := y1.same WM
    have f2 := y2.same WM
    have f3 := y3.same WM
    have f4 := y4.same WM
    have f5 := y5.same WM
    have f6 := y6.same WM
    refine ⟨_, rfl, p3, _, 0, _, rfl, rfl, SqL.of gM4, rfl, a0, Cs 0, d0, fIs 0, flOf 0, b0, w0, _, rfl, rfl, E0, f0.a, f0.d, _, rfl, p3, _, 1, _, rfl, rfl, SqL.of gM4, rfl, a1, Cs 1, d1, fIs 1, flOf 1, b1, w1, _, rfl, rfl, E1, f1.a, f1.d, _, rfl, p3, _, 2, _, rfl, rfl, SqL.of gM4, rfl, a2, Cs 2, d2, fIs 2, flOf 2, b2, w2, _, rfl, rfl, E2, f2.a, f2.d, _, rfl, p3, _, 3, _, rfl, rfl, SqL.of gM4, rfl, a3, Cs 3, d3, fIs 3, flOf 3, b3, w3, _, rfl, rfl, E3, f3.a, f3.d, _, rfl, p3, _, 4, _, rfl, rfl, SqL.of gM4, rfl, a4, Cs 4, d4, fIs 4, flOf 4, b4, w4, _, rfl, rfl, E4, f4.a, f4.d, _, rfl, p3, _, 5, _, rfl, rfl, SqL.of gM4, rfl, a5, Cs 5, d5, fIs 5, flOf 5, b5, w5, _, rfl, rfl, E5, f5.a, f5.d, _, rfl, p3, _, 6, _, rfl, rfl, SqL.of gM4, rfl, a6, Cs 6, d6, fIs 6, flOf 6, b6, w6, _, rfl, rfl, E6, f6.a, f6.d, (by show 7 ≤ sizeLine; decide), fun pf1 nf1 => ?_⟩
    have X1' := same_new nf1 (.lst [.int num, .str z, .str z, .str z, .int num, .str z, .str z])
    have WN := WM.trans X1'
    have gM5 := X1' _ _ gM4
    have gV5 := X1' _ _ gV4
    have gf1 : (upd H4 pf1 (.lst [.int num, .str z, .str z, .str z, .int num, .str z, .str z])) pf1 = some (.lst [.int num, .str z, .str z, .str z, .int num, .str z, .str z]) := upd_same
    have f7 := y7.same WN
    have f8 := y8.same WN
    have f9 := y9.same WN
    have f10 := y10.same WN
    have f11 := y11.same WN
    have f12 := y12.same WN
    refine ⟨_, rfl, _, rfl, p3, _, 7, _, rfl, rfl, SqL.of gM5, rfl, a7, Cs 7, d7, fIs 7, flOf 7, b7, w7, _, rfl, rfl, E7, f7.a, f7.d, _, rfl, p3, _, 8, _, rfl, rfl, SqL.of gM5, rfl, a8, Cs 8, d8, fIs 8, flOf 8, b8, w8, _, rfl, rfl, E8, f8.a, f8.d, _, rfl, p3, _, 9, _, rfl, rfl, SqL.of gM5, rfl, a9, Cs 9, d9, fIs 9, flOf 9, b9, w9, _, rfl, rfl, E9, f9.a, f9.d, _, rfl, p3, _, 10, _, rfl, rfl, SqL.of gM5, rfl, a10, Cs 10, d10, fIs 10, flOf 10, b10, w10, _, rfl, rfl, E10, f10.a, f10.d, _, rfl, p3, _, 11, _, rfl, rfl, SqL.of gM5, rfl, a11, Cs 11, d11, fIs 11, flOf 11, b11, w11, _, rfl, rfl, E11, f11.a, f11.d, _, rfl, p3, _, 12, _, rfl, rfl, SqL.of gM5, rfl, a12, Cs 12, d12, fIs 12, flOf 12, b12, w12, _, rfl, rfl, E12, f12.a, f12.d, (by show 6 ≤ sizeLine; decide), fun pf2 nf2 => ?_⟩
    have X2' := same_new nf2 (.lst [.int num, .ref pt, .ref pt, .ref pd, .int num, .int num])
    refine ⟨pf1, pf2, _, _, rfl, rfl, X2' _ _ gf1, upd_same, (by show 13 ≤ sizeLine; decide), fun pf3 nf3 => ?_⟩
    have X3' := same_new nf3 (.lst ([.int num, .str z, .str z, .str z, .int num, .str z, .str z] ++ [.int num, .ref pt, .ref pt, .ref pd, .int num, .int num]))
    have gV6 := X3' _ _ (X2' _ _ gV5)
    have gf3 : (upd (upd (upd H4 pf1 (.lst [.int num, .str z, .str z, .str z, .int num, .str z, .str z])) pf2 (.lst [.int num, .ref pt, .ref pt, .ref pd, .int num, .int num])) pf3 (.lst ([.int num, .str z, .str z, .str z, .int num, .str z, .str z] ++ [.int num, .ref pt, .ref pt, .ref pd, .int num, .int num]))) pf3 = some (.lst [.int num, .str z, .str z, .str z, .int num, .str z, .str z, .int num, .ref pt, .ref pt, .ref pd, .int num, .int num]) := upd_same
    generalize upd (upd (upd H4 pf1 (.lst [.int num, .str z, .str z, .str z, .int num, .str z, .str z])) pf2 (.lst [.int num, .ref pt, .ref pt, .ref pd, .int num, .int num])) pf3 (.lst ([.int num, .str z, .str z, .str z, .int num, .str z, .str z] ++ [.int num, .ref pt, .ref pt, .ref pd, .int num, .int num])) = HF at gV6 gf3 ⊢
    refine ⟨_, rfl, _, rfl, _, rfl, _, rfl, _, rfl, _, rfl, _, rfl, _, rfl, _, rfl, pv, _, 2, _, rfl, rfl, SqL.of gV6, rfl, _, rfl, pv, _, 2, _, rfl, rfl, SqL.of gV6, rfl, _, rfl, pv, _, 3, _, rfl, rfl, SqL.of gV6, rfl, _, rfl, _, rfl, (by show 13 ≤ sizeLine; decide), fun pg ng => ?_⟩
    have X4' := same_new ng (.lst [.int num, .str z, .str z, .str z, .int num, .str z, .str z, .int num, .ref pt, .ref pt, .ref pd, .int num, .int num])
    refine ⟨_, rfl, _, rfl, 1, by decide, .inl ⟨pf3, pg, _, _, rfl, rfl, SqL.of (X4' _ _ gf3), SqL.of upd_same, ?_⟩, q _⟩
    exact (.cons (.inl ⟨rfl, rfl⟩) (.cons (.inl ⟨rfl, rfl⟩) (.cons (.inl ⟨rfl, rfl⟩) (.cons (.inl ⟨rfl, rfl⟩) (.cons (.inl ⟨rfl, rfl⟩) (.cons (.inl ⟨rfl, rfl⟩) (.cons (.inl ⟨rfl, rfl⟩) (.cons (.inl ⟨rfl, rfl⟩) (.cons (.inr (.inl ⟨_, rfl, rfl⟩)) (.cons (.inr (.inl ⟨_, rfl, rfl⟩)) (.cons (.inr (.inl ⟨_, rfl, rfl⟩)) (.cons (.inl ⟨rfl, rfl⟩) (.cons (.inl ⟨rfl, rfl⟩) .nil)))))))))))))
end
end My

set_option maxRecDepth 100000
set_option maxHeartbeats 0
namespace My
open PySem PySem.Spec PyProof.Rows L2 XE
/-! ### what the top has written -/
def bmVal : List Value := [.type "ValueError", .type "Exception", .type "BaseException", .type "object"]
def bmInd : List Value := [.type "IndexError", .type "LookupError", .type "Exception", .type "BaseException", .type "object"]
def bmLook : List Value := [.type "LookupError", .type "Exception", .type "BaseException", .type "object"]
def bmOver : List Value := [.type "OverflowError", .type "ArithmeticError", .type "Exception", .type "BaseException", .type "object"]
def bmKey : List Value := [.type "KeyError", .type "LookupError", .type "Exception", .type "BaseException", .type "object"]
def bases (i : Nat) : List Value × String := if i < 5 then (bmVal, "ValueError.__new__") else if i < 7 then (bmKey, "LookupError.__new__") else if i < 8 then (bmInd, "IndexError.__new__") else if i < 11 then (bmLook, "LookupError.__new__") else (bmOver, "OverflowError.__new__")
theorem five_of (i : Nat) : Five (bases i).1 (bases i).2 := by
  unfold bases
  repeat' split
  · exact .val
  · exact .key
  · exact .ind
  · exact .look
  · exact .over
def mC (K : PySem.W.Frag) (i : Nat) : Addr := He.ga K (enames.getD i "law")
def mI (K : PySem.W.Frag) (i : Nat) : Addr := He.ma K (mC K i) "__init__"
def errB (K : PySem.W.Frag) (i : Nat) : Bool :=
  PySem.W.excInitIn K (mC K i) (bases i).1 (bases i).2 && (PySem.W.excOver K (mC K i) (bases i).1 && (decide (PySem.W.findIn K (.ref (mC K i)) "__init__" = some (some (.ref (mI K i)))) && (PySem.W.isFn K (.ref (mI K i)) &&
  (decide (PySem.W.findIn K (.ref (mC K i)) "__setattr__" = some (some (.builtin "object.__setattr__"))) && (decide (PySem.W.takerIn K (mC K i) (flOf i).s = some none) && (PySem.W.hasDictIn K (mC K i) && (decide (PySem.W.findIn K (.ref (mC K i)) (flOf i).s = some none) &&
  (decide (PySem.W.findIn K (.ref (mC K i)) "__getattribute__" = some (some (.builtin "BaseException.__getattribute__"))) && (decide (PySem.W.findIn K (.ref (mC K i)) "__getattr__" = some none) && (decide (PySem.W.subIn K (.ref (mC K i)) (.type "BaseException") = some true) && (PySem.W.keepIn K (.ref (mC K i)) &&
  (decide (PySem.W.findIn K (.ref (mC K i)) "__class__" = some (some (.builtin "object.__class__"))) && (decide (PySem.W.specialIn K (.builtin "object.__class__") "__get__" = some (some (.builtin "getset_descriptor.__get__"))) &&
  (decide (PySem.W.takesIn K (.builtin "object.__class__") = some true) && decide (PySem.W.mroIn K (mC K i) (.type "object") = some true)))))))))))))))
def ownB (K : PySem.W.Frag) : Bool := (List.range 13).all fun i => (List.range 13).all fun j => decide (PySem.W.kitOne K (.ref (mC K i)) (.ref (mC K j)) = some (decide (i = j)))
def kinB (K : PySem.W.Frag) : Bool := (List.range 13).all fun i => (List.range 5).all fun j => decide (PySem.W.kitOne K (.ref (mC K i)) (.type (bnames.getD j "")) = some ((krow i).getD j false))
def exB (K : PySem.W.Frag) : Bool := (List.range 13).all (errB K) && (ownB K && kinB K)
def iSt (i : Nat) : Stmt := inClass (top (i + 1)) 0
def dd (x : Str) (i : Nat) : He.DefD := ⟨(x, none), x, x, defArgs (top i), defBody (top i), defScope (top i), [], []⟩
def di (x q : Str) (i : Nat) : He.DefD := ⟨(x, some "__init__"), "__init__", q, defArgs (iSt i), defBody (iSt i), defScope (iSt i), [], []⟩
def fn : List He.DefD := [di "NoText" "NoText.__init__" 0, di "NoChain" "NoChain.__init__" 1, di "NoTree" "NoTree.__init__" 2, di "NoWay" "NoWay.__init__" 3, di "NoRow" "NoRow.__init__" 4, di "NoName" "NoName.__init__" 5, di "NoLabel" "NoLabel.__init__" 6, di "NoStep" "NoStep.__init__" 7, di "NoMark" "NoMark.__init__" 8, di "NoOrder" "NoOrder.__init__" 9, di "NoClash" "NoClash.__init__" 10, di "TooGreat" "TooGreat.__init__" 11, di "TooMany" "TooMany.__init__" 12, dd "_law_tape" 15, dd "_law_draw" 16, dd "_law_words" 17, dd "_law_classes" 18, dd "_law_kinds" 19, dd "law" 20]
def fa : List He.Fa := [.glo "NoText", .glo "NoChain", .glo "NoTree", .glo "NoWay", .glo "NoRow", .glo "NoName", .glo "NoLabel", .glo "NoStep", .glo "NoMark", .glo "NoOrder", .glo "NoClash", .glo "TooGreat", .glo "TooMany", .glo "_law_tape", .glo "_law_draw", .glo "_law_words", .glo "_law_classes", .glo "_law_kinds", .glo "law", .free "len", .free "range", .free "enumerate", .free "isinstance", .free "ValueError", .free "KeyError", .free "IndexError", .free "LookupError", .free "OverflowError"]
abbrev R : PySem.W.OpenRow := PySem.W.OpenLaw.row PySem.Challenge.rw_middlesay_k04_refusals_by_their_kinds
def obsM (g : Addr → Option Obj) : He.AlD × Bool := (He.obsDG 5 fa fn g, exB (He.frG g (He.asD g 5)))
def hookM : PySem.W.Hook where
  α := He.AlD × Bool
  obs := fun s => obsM s.heap.get?
  val := fun _ => (He.valD fn, true)
  says := fun _ h => ∃ K : PySem.W.Frag, K.In h ∧ He.SaysD fa fn K ∧ exB K = true
  of := fun _ _ e => ⟨_, He.frG_in, congrArg (fun z : He.AlD × Bool => z.1) e, congrArg (fun z : He.AlD × Bool => z.2) e⟩
  keeps := fun _ _ _ ⟨K, hK, c⟩ k => ⟨K, PySem.W.Frag.In.keeps hK k, c⟩
def ob (s : PySem.W.SharedT) : He.AlD × Bool := obsM (HandSHeadRun.getT s)
theorem ob_eq (s : PySem.W.SharedT) : ob s = hookM.obs s.abs := by
  have e : HandSHeadRun.getT s = s.abs.heap.get? := funext (HandSHeadRun.getT_eq s)
  unfold ob
  rw [e]
  rfl
theorem run (w : World) : HandSHeadRun.RunEq R (PySem.W.view R.prog [20]) hookM ob 4000 ["NoText", "NoChain", "NoTree", "NoWay", "NoRow", "NoName", "NoLabel", "NoStep", "NoMark", "NoOrder", "NoClash", "TooGreat", "TooMany", "_law_tape", "_law_draw", "_law_words", "_law_classes", "_law_kinds"] w := by
  intro os
  kernel_rfl
theorem init_of {K : PySem.W.Frag} {f : Addr} {fd : FuncData} {qual : Str} {st : Stmt} {fl : Fl} {p1 p2 q1 q2 q3 q4 : Pos} (F : FunD K "__init__" qual (defArgs st) (defBody st) (defScope st) [] [] f fd) (e1 : defArgs st = iA fl p1 p2) (e2 : defBody st = iB fl q1 q2 q3 q4) (e3 : defScope st = iS fl) :
    ∃ (qual : Str) (oc : Value) (od : Option Addr) (kv doc pm : Value) (an : Option Addr) (cdv ct : Value) (osl : Array (Option Value)) (p1 p2 q1 q2 q3 q4 : Pos),
      K.lookup f = some ⟨oc, od, .func (PySem.W.fnOf "__init__" qual (iA fl p1 p2) (iB fl q1 q2 q3 q4) (iS fl) .none kv doc pm an cdv ct), osl⟩ ∧ PySem.W.codeIn K cdv qual = true := by
  obtain ⟨oc, od, dV, kV, doc, pm, an, cdv, ct, osl, rfl, lk, hcd, hD, hK⟩ := F.ex
  rcases hD with ⟨_, rfl⟩ | ⟨e, _⟩
  · rw [e1, e2, e3] at lk
    exact ⟨qual, oc, od, kV, doc, pm, an, cdv, ct, osl, p1, p2, q1, q2, q3, q4, lk, hcd⟩
  · exact absurd rfl e
theorem init_all {K : PySem.W.Frag} (c : He.SaysD fa fn K) : ∀ i, i < 13 → ∃ (qual : Str) (oc : Value) (od : Option Addr) (kv doc pm : Value) (an : Option Addr) (cdv ct : Value) (osl : Array (Option Value)) (p1 p2 q1 q2 q3 q4 : Pos),
      K.lookup (mI K i) = some ⟨oc, od, .func (PySem.W.fnOf "__init__" qual (iA (flOf i) p1 p2) (iB (flOf i) q1 q2 q3 q4) (iS (flOf i)) .none kv doc pm an cdv ct), osl⟩ ∧ PySem.W.codeIn K cdv qual = true := fun i hi => match i, hi with
  | 0, _ => by
    obtain ⟨fd, F⟩ := c.def_ 0 (d := di "NoText" "NoText.__init__" 0) rfl
    exact init_of (st := iSt 0) F rfl rfl rfl
  | 1, _ => by
    obtain ⟨fd, F⟩ := c.def_ 1 (d := di "NoChain" "NoChain.__init__" 1) rfl
    exact init_of (st := iSt 1) F rfl rfl rfl
  | 2, _ => by
    obtain ⟨fd, F⟩ := c.def_ 2 (d := di "NoTree" "NoTree.__init__" 2) rfl
    exact init_of (st := iSt 2) F rfl rfl rfl
  | 3, _ => by
    obtain ⟨fd, F⟩ := c.def_ 3 (d := di "NoWay" "NoWay.__init__" 3) rfl
    exact init_of (st := iSt 3) F rfl rfl rfl
  | 4, _ => by
    obtain ⟨fd, F⟩ := c.def_ 4 (d := di "NoRow" "NoRow.__init__" 4) rfl
    exact init_of (st := iSt 4) F rfl rfl rfl
  | 5, _ => by
    obtain ⟨fd, F⟩ := c.def_ 5 (d := di "NoName" "NoName.__init__" 5) rfl
    exact init_of (st := iSt 5) F rfl rfl rfl
  | 6, _ => by
    obtain ⟨fd, F⟩ := c.def_ 6 (d := di "NoLabel" "NoLabel.__init__" 6) rfl
    exact init_of (st := iSt 6) F rfl rfl rfl
  | 7, _ => by
    obtain ⟨fd, F⟩ := c.def_ 7 (d := di "NoStep" "NoStep.__init__" 7) rfl
    exact init_of (st := iSt 7) F rfl rfl rfl
  | 8, _ => by
    obtain ⟨fd, F⟩ := c.def_ 8 (d := di "NoMark" "NoMark.__init__" 8) rfl
    exact init_of (st := iSt 8) F rfl rfl rfl
  | 9, _ => by
    obtain ⟨fd, F⟩ := c.def_ 9 (d := di "NoOrder" "NoOrder.__init__" 9) rfl
    exact init_of (st := iSt 9) F rfl rfl rfl
  | 10, _ => by
    obtain ⟨fd, F⟩ := c.def_ 10 (d := di "NoClash" "NoClash.__init__" 10) rfl
    exact init_of (st := iSt 10) F rfl rfl rfl
  | 11, _ => by
    obtain ⟨fd, F⟩ := c.def_ 11 (d := di "TooGreat" "TooGreat.__init__" 11) rfl
    exact init_of (st := iSt 11) F rfl rfl rfl
  | 12, _ => by
    obtain ⟨fd, F⟩ := c.def_ 12 (d := di "TooMany" "TooMany.__init__" 12) rfl
    exact init_of (st := iSt 12) F rfl rfl rfl
  | n + 13, h => absurd h (by omega)
theorem both {a b : Bool} (h : (a && b) = true) : a = true ∧ b = true := Bool.and_eq_true_iff.mp h
theorem txt {K : PySem.W.Frag} {h : Heap} {mg : Str → Option Value} (X : K.In h) (G : h.Ns mainGlobals mg) (c : He.SaysD fa fn K) (ce : exB K = true) : Txt K mg (mC K) (mI K) := by
  obtain ⟨ce1, ce2⟩ := both ce
  obtain ⟨co, ck⟩ := both ce2
  refine ⟨fun i hi => ?_, fun i x e => ?_, fun i x e => ?_, fun i j hi hj => ?_, fun i j x hi e => ?_, He.free_ok X G (c.fact 22 (f := .free "isinstance") rfl)⟩
  · have h0 : errB K i = true := List.all_eq_true.mp ce1 i (List.mem_range.mpr hi)
    unfold errB at h0
    obtain ⟨h1, h0⟩ := both h0
    obtain ⟨h2, h0⟩ := both h0
    obtain ⟨h3, h0⟩ := both h0
    obtain ⟨h4, h0⟩ := both h0
    obtain ⟨h5, h0⟩ := both h0
    obtain ⟨h6, h0⟩ := both h0
    obtain ⟨h7, h0⟩ := both h0
    obtain ⟨h8, h0⟩ := both h0
    obtain ⟨h9, h0⟩ := both h0
    obtain ⟨h10, h0⟩ := both h0
    obtain ⟨h11, h0⟩ := both h0
    obtain ⟨h12, h0⟩ := both h0
    obtain ⟨h13, h0⟩ := both h0
    obtain ⟨h14, h0⟩ := both h0
    obtain ⟨h15, h16⟩ := both h0
    exact ⟨_, _, ⟨five_of i, h1, h2, of_decide_eq_true h3, h4, of_decide_eq_true h5, of_decide_eq_true h6, h7, of_decide_eq_true h8, of_decide_eq_true h9, of_decide_eq_true h10, of_decide_eq_true h11, h12, of_decide_eq_true h13, of_decide_eq_true h14, of_decide_eq_true h15, of_decide_eq_true h16, init_all c i hi⟩⟩
  · match i, e with
    | 0, e =>
      cases e
      exact He.glo_ok X G (c.fact 0 (f := .glo "NoText") rfl)
    | 1, e =>
      cases e
      exact He.glo_ok X G (c.fact 1 (f := .glo "NoChain") rfl)
    | 2, e =>
      cases e
      exact He.glo_ok X G (c.fact 2 (f := .glo "NoTree") rfl)
    | 3, e =>
      cases e
      exact He.glo_ok X G (c.fact 3 (f := .glo "NoWay") rfl)
    | 4, e =>
      cases e
      exact He.glo_ok X G (c.fact 4 (f := .glo "NoRow") rfl)
    | 5, e =>
      cases e
      exact He.glo_ok X G (c.fact 5 (f := .glo "NoName") rfl)
    | 6, e =>
      cases e
      exact He.glo_ok X G (c.fact 6 (f := .glo "NoLabel") rfl)
    | 7, e =>
      cases e
      exact He.glo_ok X G (c.fact 7 (f := .glo "NoStep") rfl)
    | 8, e =>
      cases e
      exact He.glo_ok X G (c.fact 8 (f := .glo "NoMark") rfl)
    | 9, e =>
      cases e
      exact He.glo_ok X G (c.fact 9 (f := .glo "NoOrder") rfl)
    | 10, e =>
      cases e
      exact He.glo_ok X G (c.fact 10 (f := .glo "NoClash") rfl)
    | 11, e =>
      cases e
      exact He.glo_ok X G (c.fact 11 (f := .glo "TooGreat") rfl)
    | 12, e =>
      cases e
      exact He.glo_ok X G (c.fact 12 (f := .glo "TooMany") rfl)
    | n + 13, e => exact absurd e (by simp [enames])
  · match i, e with
    | 0, e =>
      cases e
      exact He.free_ok X G (c.fact 23 (f := .free "ValueError") rfl)
    | 1, e =>
      cases e
      exact He.free_ok X G (c.fact 24 (f := .free "KeyError") rfl)
    | 2, e =>
      cases e
      exact He.free_ok X G (c.fact 25 (f := .free "IndexError") rfl)
    | 3, e =>
      cases e
      exact He.free_ok X G (c.fact 26 (f := .free "LookupError") rfl)
    | 4, e =>
      cases e
      exact He.free_ok X G (c.fact 27 (f := .free "OverflowError") rfl)
    | n + 5, e => exact absurd e (by simp [bnames])
  · exact of_decide_eq_true (List.all_eq_true.mp (List.all_eq_true.mp co i (List.mem_range.mpr hi)) j (List.mem_range.mpr hj))
  · have hj : j < 5 := by
      have z := (List.getElem?_eq_some_iff.mp e).1
      exact z
    have y := of_decide_eq_true (List.all_eq_true.mp (List.all_eq_true.mp ck i (List.mem_range.mpr hi)) j (List.mem_range.mpr hj))
    have ex : bnames.getD j "" = x := by rw [List.getD_eq_getElem?_getD, e]; rfl
    rw [ex] at y
    exact y
theorem facts {P : Program} {w : World} {K : PySem.W.Frag} {h : Heap} {mg : Str → Option Value} {f : Addr} (X : K.In h) (G : h.Ns mainGlobals mg) (hfa : mg ("law" : Str) = some (.ref f)) (c : He.SaysD fa fn K) (ce : exB K = true) :
    ∃ fd : FuncData, (∀ (s : Shared) (v : Value), BindsTo s fd ⟨[v], []⟩ [("_law_script", v)]) ∧ ∀ base : Heap, K.In base → base.Ns mainGlobals mg → FnOk P w K mg base CX0 13 f fd ["_law_script"] (spLaw K) := by
  have T := txt X G c ce
  obtain ⟨dT, FT⟩ := c.def_ 13 (d := dd "_law_tape" 15) rfl
  obtain ⟨dD, FD⟩ := c.def_ 14 (d := dd "_law_draw" 16) rfl
  obtain ⟨dW, FW⟩ := c.def_ 15 (d := dd "_law_words" 17) rfl
  obtain ⟨dC, FC⟩ := c.def_ 16 (d := dd "_law_classes" 18) rfl
  obtain ⟨dK, FK⟩ := c.def_ 17 (d := dd "_law_kinds" 19) rfl
  obtain ⟨fd, F⟩ := c.def_ 18 (d := dd "law" 20) rfl
  have e := hfa.symm.trans (He.glo_ok X G (c.fact 18 (f := .glo "law") rfl))
  cases e
  have b := FunD.bindsA (ps := ["_law_script"]) F fun _ _ _ _ _ _ us hl => match us, hl with | [_], _ => rfl
  have C : Defs K mg _ _ _ _ _ dT dD dW dC dK :=
    { FT := FT, FD := FD, FW := FW, FC := FC, FK := FK
      gT := He.glo_ok X G (c.fact 13 (f := .glo "_law_tape") rfl)
      gD := He.glo_ok X G (c.fact 14 (f := .glo "_law_draw") rfl)
      gW := He.glo_ok X G (c.fact 15 (f := .glo "_law_words") rfl)
      gC := He.glo_ok X G (c.fact 16 (f := .glo "_law_classes") rfl)
      gK := He.glo_ok X G (c.fact 17 (f := .glo "_law_kinds") rfl)
      kT := FT.kp, kD := FD.kp, kW := FW.kp, kC := FC.kp, kK := FK.kp
      bT := FT.bindsN fun _ _ _ _ _ _ us hl => match us, hl with | [_], _ => rfl
      bD := FD.bindsN fun _ _ _ _ _ _ us hl => match us, hl with | [_, _], _ => rfl
      bW := FW.bindsN fun _ _ _ _ _ _ us hl => match us, hl with | [_, _], _ => rfl
      bC := FC.bindsN fun _ _ _ _ _ _ us hl => match us, hl with | [_], _ => rfl
      bK := FK.bindsN fun _ _ _ _ _ _ us hl => match us, hl with | [_], _ => rfl
      ml := He.free_ok X G (c.fact 19 (f := .free "len") rfl)
      mr := He.free_ok X G (c.fact 20 (f := .free "range") rfl)
      me := He.free_ok X G (c.fact 21 (f := .free "enumerate") rfl) }
  exact ⟨fd, fun s v => b s [v] rfl, fun base _ _ => ok_law F C T⟩
end My
open PySem PySem.W PySem.Calls PyProof.Rows
theorem PySem.Challenge.cw_middlesay_k04_refusals_by_their_kinds_holds : PySem.Challenge.rw_middlesay_k04_refusals_by_their_kinds.Holds := by
  w_on; o_law
  refine HandSHeadRun.head_any (r := OpenLaw.row PySem.Challenge.rw_middlesay_k04_refusals_by_their_kinds) (q := view (OpenLaw.row PySem.Challenge.rw_middlesay_k04_refusals_by_their_kinds).prog [20]) (H := My.hookM) (ob := My.ob) (M := 4000) (loose := ["NoText", "NoChain", "NoTree", "NoWay", "NoRow", "NoName", "NoLabel", "NoStep", "NoMark", "NoOrder", "NoClash", "TooGreat", "TooMany", "_law_tape", "_law_draw", "_law_words", "_law_classes", "_law_kinds"])
    (d := HandSHeadRun.topDef (OpenLaw.row PySem.Challenge.rw_middlesay_k04_refusals_by_their_kinds).prog 20) (kwd := []) My.ob_eq
    (by kernel_rfl) (fun s => by kernel_rfl) My.run (by kernel_rfl) (by kernel_rfl) (by kernel_rfl) (by rfl) (by first | assumption | decide +kernel) (by decide +kernel) ⟨rfl, rfl, rfl, rfl, rfl, by decide +kernel⟩ ?hw ?hc
  case hw => w_witness2
  case hc =>
    refine L2.walk_ofE (l := PySem.Challenge.rw_middlesay_k04_refusals_by_their_kinds) (n := 63) (k := 13) (x := "_law_script") (CX := L2.CX0) rfl (by decide) (by kernel_rfl) ⟨rfl, by decide, by decide⟩ ?F (fun _ _ _ _ z => z)
    intro w mg fa h Y G hmg0
    obtain ⟨K, KX, c, ce⟩ := Y
    have hmg : mg ("law" : PySem.Str) = some (.ref fa) := by
      have e : (HandSHeadRun.topDef (OpenLaw.row PySem.Challenge.rw_middlesay_k04_refusals_by_their_kinds).prog 20).name = ("law" : PySem.Str) := by kernel_rfl
      rw [← e]
      exact hmg0
    obtain ⟨fd, hb, hF⟩ := My.facts (P := (PySem.Challenge.rw_middlesay_k04_refusals_by_their_kinds).prog) (w := w) KX G hmg c ce
    exact ⟨K, fd, My.spLaw K, KX, hb, fun H a ns hl _ hS => ⟨a, ns, rfl, hS, fun _ => rfl⟩, hF⟩
