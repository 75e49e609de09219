import PyProof.Rows.All
import Wide.All
import OpenK.AllK
import Wide.FinOn
import HandS.ForMost
import HandS.Defaults
import HandS.Flow
import HandS.Wide
import HandS.Walk
import HandS.More
import HandS.IsInst
import HandS.TupAny
import KE.KStateDown
import HandS.Head0
import HandS.Head1
import HandS.Head2
import HandS.HeadEnd
import HandS.HeadHook1
import HandS.HeadHook2
import HandS.HeadHook3
import HandS.HeadHook4
import PySem.Challenge.RW_middlesay_k01_sayings_or_not
set_option Elab.async false
set_option linter.all false
set_option maxRecDepth 100000
set_option maxHeartbeats 4000000
namespace My
open PySem PySem.Spec PyProof.Rows L2
def top (i : Nat) : Stmt := PySem.Challenge.pw_middlesay_k01_sayings_or_not.main.body.getD i (.Pass ⟨0, 0, 0, 0⟩)
abbrev FnP (K : PySem.W.Frag) (x : Str) (st : Stmt) (f : Addr) (fd : FuncData) : Prop := FunD K x x (defArgs st) (defBody st) (defScope st) [] [] f fd
abbrev sTape : Stmt := top 13
abbrev sDraw : Stmt := top 14
/-! ### the tape -/
abbrev kC : Key := Sum.inr ("cells" : Str)
abbrev kS : Key := Sum.inr ("spot" : Str)
abbrev kL : Key := Sum.inr ("left" : Str)
def tkv (L : Addr) (s l : Int) : List (Key × V) := [(kC, .ref L), (kS, .int s), (kL, .int l)]
theorem tkv_C (L : Addr) (s l : Int) : valV (tkv L s l) kC = some (.ref L) := rfl
theorem tkv_S (L : Addr) (s l : Int) : valV (tkv L s l) kS = some (.int s) := rfl
theorem tkv_L (L : Addr) (s l : Int) : valV (tkv L s l) kL = some (.int l) := rfl
theorem tkv_putS (L : Addr) (s l v : Int) : putK (tkv L s l) kS (.int v) = tkv L v l := rfl
theorem tkv_putL (L : Addr) (s l v : Int) : putK (tkv L s l) kL (.int v) = tkv L s v := rfl
theorem tkv_len (L : Addr) (s l : Int) : (tkv L s l).length < sizeLine := by
  show 3 < sizeLine
  decide
/-- at T a tape: cells at L, at most B drawn -/
structure TapeAt (H : Hp) (T L : Addr) (ns : List Int) (s l : Int) : Prop where
  d : H T = some (.dK (tkv L s l))
  c : H L = some (.lst (ns.map V.int))
def Tape (H : Hp) (T L : Addr) (B : Int) : Prop := ∃ (ns : List Int) (s l : Int), TapeAt H T L ns s l ∧ 0 ≤ s ∧ s ≤ B ∧ ns.length ≤ 63
/-- all but what stands at T is as it was -/
def Keep (T : Addr) (H H' : Hp) : Prop := ∀ b o, H b = some o → b ≠ T → H' b = some o
theorem Keep.trans {T : Addr} {H H1 H2 : Hp} (a : Keep T H H1) (b : Keep T H1 H2) : Keep T H H2 := fun c o h n => b c o (a c o h n) n
theorem Keep.of {T : Addr} {H H' : Hp} (a : Same H H') : Keep T H H' := fun b o h _ => a b o h
theorem Keep.refl {T : Addr} {H : Hp} : Keep T H H := fun _ _ h _ => h
theorem keep_put {T : Addr} {H : Hp} {o : HO} : Keep T H (upd H T o) := fun b u h n => by
  rw [upd_ne n]
  exact h
theorem same_new {H : Hp} {p : Addr} (h : H p = none) (o : HO) : Same H (upd H p o) := fun b u q => by
  rw [upd_ne (ne_of_none q h)]
  exact q
theorem TapeAt.same {H H' : Hp} {T L : Addr} {ns : List Int} {s l : Int} (t : TapeAt H T L ns s l) (a : Same H H') : TapeAt H' T L ns s l := ⟨a _ _ t.d, a _ _ t.c⟩
theorem Tape.same {H H' : Hp} {T L : Addr} {B : Int} (t : Tape H T L B) (a : Same H H') : Tape H' T L B := by
  obtain ⟨ns, s, l, h, r⟩ := t
  exact ⟨ns, s, l, h.same a, r⟩
theorem Tape.put {H : Hp} {T L p : Addr} {o : HO} {B : Int} (t : Tape H T L B) (h1 : p ≠ T) (h2 : p ≠ L) : Tape (upd H p o) T L B := by
  obtain ⟨ns, s, l, h, r⟩ := t
  exact ⟨ns, s, l, ⟨by rw [upd_ne h1.symm]; exact h.d, by rw [upd_ne h2.symm]; exact h.c⟩, r⟩
theorem Tape.nT {H : Hp} {T L p : Addr} {B : Int} (t : Tape H T L B) (h : H p = none) : p ≠ T := fun z => by
  obtain ⟨ns, s, l, a, _⟩ := t
  rw [z, a.d] at h
  cases h
theorem Tape.nL {H : Hp} {T L p : Addr} {B : Int} (t : Tape H T L B) (h : H p = none) : p ≠ L := fun z => by
  obtain ⟨ns, s, l, a, _⟩ := t
  rw [z, a.c] at h
  cases h
theorem Tape.more {H : Hp} {T L : Addr} {B C : Int} (t : Tape H T L B) (h : B ≤ C) : Tape H T L C := by
  obtain ⟨ns, s, l, a, h0, h1, h2⟩ := t
  exact ⟨ns, s, l, a, h0, by omega, h2⟩
theorem Keep.free {T : Addr} {H H' : Hp} (k : Keep T H H') {p : Addr} (h : H' p = none) (n : p ≠ T) : H p = none := by
  cases e : H p with
  | none => rfl
  | some o =>
    rw [k p o e n] at h
    cases h
theorem TapeAt.ne {H : Hp} {T L : Addr} {ns : List Int} {s l : Int} (t : TapeAt H T L ns s l) : L ≠ T := fun z => by
  have e := t.c
  rw [z, t.d] at e
  cases e
theorem TapeAt.put {H : Hp} {T L : Addr} {ns : List Int} {s l s' l' : Int} (t : TapeAt H T L ns s l) : TapeAt (upd H T (.dK (tkv L s' l'))) T L ns s' l' := ⟨upd_same, by rw [upd_ne t.ne]; exact t.c⟩
theorem TapeAt.gS {H : Hp} {T L : Addr} {ns : List Int} {s l : Int} (t : TapeAt H T L ns s l) : DGet H T (.str ("spot" : Str)) (some (.int s)) := DGet.k (k := kS) t.d
theorem TapeAt.gL {H : Hp} {T L : Addr} {ns : List Int} {s l : Int} (t : TapeAt H T L ns s l) : DGet H T (.str ("left" : Str)) (some (.int l)) := DGet.k (k := kL) t.d
theorem TapeAt.gC {H : Hp} {T L : Addr} {ns : List Int} {s l : Int} (t : TapeAt H T L ns s l) : DGet H T (.str ("cells" : Str)) (some (.ref L)) := DGet.k (k := kC) t.d
theorem TapeAt.pS {H : Hp} {T L : Addr} {ns : List Int} {s l v : Int} (t : TapeAt H T L ns s l) : DPut H T (.str ("spot" : Str)) (.int v) (upd H T (.dK (tkv L v l))) := DPut.k (k := kS) (v := .int v) t.d (tkv_len L s l)
theorem TapeAt.pL {H : Hp} {T L : Addr} {ns : List Int} {s l v : Int} (t : TapeAt H T L ns s l) : DPut H T (.str ("left" : Str)) (.int v) (upd H T (.dK (tkv L s v))) := DPut.k (k := kL) (v := .int v) t.d (tkv_len L s l)
/-! ### numbers -/
theorem fm {i j : Int} (h : 0 < j) : 0 ≤ i.fmod j ∧ i.fmod j < j := by
  rw [Int.fmod_eq_emod_of_nonneg _ (by omega)]
  exact ⟨Int.emod_nonneg _ (by omega), Int.emod_lt_of_pos _ h⟩
theorem mul64 {i j : Int} (h1 : 0 ≤ i) (h2 : i < 18446744073709551616) (h3 : 0 ≤ j) (h4 : j < 18446744073709551616) : CMulW i j :=
  wide_mul (a := 64) (b := 64) (by omega) (by omega) (by decide) (by decide) (by decide)
abbrev sevenP : List V := [.int 2147483647, .int 2147483629, .int 2147483587, .int 2147483579, .int 2147483563, .int 2147483549, .int 2147483543]
theorem prime_at {i : Int} (h0 : 0 ≤ i) (h7 : i < 7) : ∃ p : Int, atI sevenP i = some (.int p) ∧ 2147483543 ≤ p ∧ p ≤ 2147483647 := by
  have c : i = 0 ∨ i = 1 ∨ i = 2 ∨ i = 3 ∨ i = 4 ∨ i = 5 ∨ i = 6 := by omega
  rcases c with rfl | rfl | rfl | rfl | rfl | rfl | rfl <;> exact ⟨_, rfl, by decide, by decide⟩
theorem at_in {α : Type} {xs : List α} {i : Int} (h0 : 0 ≤ i) (h : i < (xs.length : Int)) : ∃ v, v ∈ xs ∧ atI xs i = some v := by
  have hk : i.toNat < xs.length := by omega
  have e : i = ((i.toNat : Nat) : Int) := by omega
  refine ⟨xs[i.toNat], List.getElem_mem hk, ?_⟩
  have z := atI_nat (List.getElem?_eq_getElem hk)
  rw [← e] at z
  exact z
theorem at_mod {cs : List Int} (h : 0 < cs.length) (s : Int) : ∃ v : Int, atI (cs.map V.int) (s.fmod ((cs.map V.int).length : Int)) = some (.int v) := by
  have hl : 0 < (((cs.map V.int).length : Nat) : Int) := by
    rw [List.length_map]
    omega
  obtain ⟨v, hv, e⟩ := at_in (xs := cs.map V.int) (fm hl (i := s)).1 (fm hl (i := s)).2
  obtain ⟨z, _, rfl⟩ := List.mem_map.mp hv
  exact ⟨z, e⟩
theorem both_ways {p : Prop} {i : Decidable p} {R : Bool → Prop} (a : R true) (b : R false) : R (@decide p i) := by
  cases @decide p i
  · exact b
  · exact a
theorem less_draw {m : Int} {n : Nat} (hm : 1000000 < m) (h : m.natAbs < 2 ^ (19 * (n + 1))) : 1 ≤ m / 1000000 + 1 ∧ (m / 1000000 + 1).natAbs < 2 ^ (19 * n) := by
  rw [Nat.mul_succ, Nat.pow_add] at h
  have e : (2 : Nat) ^ 19 = 524288 := by decide
  rw [e] at h
  cases n with
  | zero =>
    rw [Nat.mul_zero, Nat.pow_zero] at h
    omega
  | succ j =>
    have g : 2 ^ 19 ≤ 2 ^ (19 * (j + 1)) := Nat.pow_le_pow_right (by decide) (by omega)
    rw [e] at g
    generalize 2 ^ (19 * (j + 1)) = X at g h
    omega
theorem cutR {R G : Prop} (k : R → G) (r : R) : G := k r
/-! ### the two defs -/
def spTape (K : PySem.W.Frag) : Sp := fun vs H Q _ => ∃ (a : Addr) (ns : List Int), vs = [.ref a] ∧ SqL K H a (ns.map V.int) ∧ ∀ (H' : Hp) (T L : Addr), Tape H' T L 0 → Same H H' → H T = none → H L = none → Q (.ref T) H'
def spDraw (n : Nat) : Sp := fun vs H Q _ => ∃ (T L : Addr) (m B : Int), vs = [.ref T, .int m] ∧ 1 ≤ m ∧ m.natAbs < 2 ^ (19 * n) ∧ B + n ≤ 1000000 ∧ Tape H T L B ∧
  ∀ (H' : Hp) (r : Int), 0 ≤ r → r < m → Tape H' T L (B + n) → Keep T H H' → Q (.int r) H'
theorem scTape : FnScope ["_law_script"] ["_law_script"] (defScope sTape) := ⟨rfl, rfl, rfl, by decide +kernel, rfl, by decide +kernel, by decide +kernel⟩
theorem scDraw : FnScope ["_law_tape_here", "_law_many", "_law_found", "_law_spot", "_law_cells", "_law_cell", "_law_primes", "_law_prime", "_law_seed"] ["_law_tape_here", "_law_many"] (defScope sDraw) := ⟨rfl, rfl, rfl, by decide +kernel, rfl, by decide +kernel, by decide +kernel⟩
section
variable {P : Program} {w : World} {K : PySem.W.Frag} {mg : Str → Option Value} {base : Heap} {f : Addr} {fd : FuncData}
theorem cut63 (ns : List Int) : ∃ ms : List Int, cutV (ns.map V.int) none (some 63) = ms.map V.int ∧ ms.length ≤ 63 := by
  refine ⟨ns.take (min 63 ns.length), ?_, by rw [List.length_take]; omega⟩
  unfold cutV
  rw [show HT.sIx (ns.map V.int).length (ns.map V.int).length (some 63) = min 63 (ns.map V.int).length from HT.sIx_nat _ _ 63, HT.sIx_none]
  rw [List.length_map, List.drop_zero, List.map_take]
  rfl
theorem ok_tape {k : Nat} (F : FnP K "_law_tape" sTape f fd) : FnOk P w K mg base CX0 (k + 1) f fd ["_law_script"] (spTape K) := by
  refine F.ok scTape (fun vs H Q E h => ?_) (fun cdv A outer s H vs Q E hr h => ?_)
  · obtain ⟨a, ns, rfl, _⟩ := h
    rfl
  obtain ⟨a, ns, rfl, hS, q⟩ := h
  refine ⟨_, PSs.nox (pss_one (ps_ret (pe_disp (pps_cons pe_str (pe_slice sl_list (pv 0) po_none (po_some pe_int)) (pps_cons pe_str pe_int (pps_cons pe_str pe_int pps_nil))) (by rfl) (by rfl) (fun z => by cases z) (by decide)))), ?_⟩
  refine fun p np => ⟨.ref a, rfl, ?_⟩
  have s1 : Same H (upd H p (.dK [])) := same_new np _
  refine ⟨63, rfl, a, _, rfl, s1.seq hS, fun c nc => ?_⟩
  have s2 := same_new nc (.lst (cutV (ns.map V.int) none (some 63)))
  have ncp : p ≠ c := fun e => by
    rw [← e, upd_same] at nc
    cases nc
  obtain ⟨ms, em, lm⟩ := cut63 ns
  refine ⟨by rw [upd_ne ncp, upd_same], [(kC, .ref c), (kS, .int 0), (kL, .int 0)], rfl, (by show 3 ≤ 15; decide), ?_⟩
  refine q _ p c ⟨ms, 0, 0, ⟨?_, ?_⟩, Int.le_refl 0, Int.le_refl 0, lm⟩ ?_ np (s1.free nc)
  · rw [upd_same]
    rfl
  · rw [upd_ne ncp.symm, upd_same, em]
  · intro b o h
    have hb : b ≠ p := ne_of_none h np
    rw [upd_ne hb]
    exact s2 _ _ (s1 _ _ h)
theorem or_cells {σ : L2.St} {H : Hp} {T L : Addr} {ns : List Int} {s l : Int} (e0 : σ[0]? = some (some (.ref T))) (t : TapeAt H T L ns s l) (hn : ns.length ≤ 63) :
    ∀ Q : VK, (∀ (C : Addr) (cs : List Int) (H2 : Hp), SqL K H2 C (cs.map V.int) → 0 < cs.length → cs.length ≤ 63 → Same H H2 → Q (.ref C) H2) →
      tOrT K (tDGet (tVar 0) (tC (.str ("cells" : Str)))) (tLst (tCons (tC (.int 0)) tNil)) σ H Q := fun Q q => by
  refine ⟨_, e0, T, _, rfl, t.gC, !(ns.map V.int).isEmpty, .inl ⟨_, SqL.of t.c, rfl⟩, ?_⟩
  cases ns with
  | nil =>
    refine iteF ?_
    exact ⟨(by show 1 ≤ sizeLine; decide), fun p np => q p [0] _ (SqL.of upd_same) (by decide) (by decide) (same_new np _)⟩
  | cons x r =>
    refine iteT ?_
    exact q L (x :: r) _ (SqL.of t.c) (by simp) hn (Same.refl _)
theorem ok_draw {n : Nat} (hn : n ≤ 20) (F : FnP K "_law_draw" sDraw f fd) (G : FnOk P w K mg base CX0 n f fd ["_law_tape_here", "_law_many"] (spDraw n)) (b : Binds K fd ["_law_tape_here", "_law_many"] []) (gD : mg "_law_draw" = some (.ref f)) (ml : mg "len" = none) :
    FnOk P w K mg base CX0 (n + 1) f fd ["_law_tape_here", "_law_many"] (spDraw (n + 1)) := by
  refine F.ok scDraw (fun vs H Q E h => ?_) (fun cdv A outer s H vs Q E hr h => ?_)
  · obtain ⟨T, L, m, B, rfl, _⟩ := h
    rfl
  obtain ⟨T, L, m, B, rfl, hm1, hm2, hB, hT, q⟩ := h
  have hu := hu_of hr
  refine ⟨_, PSs.nox (pss_cons (ps_if (pt_cmpR op_gt (pe_dget hu (pv 0) pe_str (fun _ _ => rfl)) pe_int (nomark _))
 (pss_cons (ps_set (i := 2) scDraw.nd rfl (Or.inl rfl) (pe_op op_modN (pe_dget hu (pv 0) pe_str (fun _ _ => rfl)) (pv 1)))
 (pss_cons (ps_dput hu (pv 0) pe_str (pe_op op_fdivW (pe_dget hu (pv 0) pe_str (fun _ _ => rfl)) (pv 1)) rfl)
 (pss_one (ps_ret (pv 2))))) pss_nil)
 (pss_cons (ps_set (i := 3) scDraw.nd rfl (Or.inl rfl) (pe_dget hu (pv 0) pe_str (fun _ _ => rfl)))
 (pss_cons (ps_dput hu (pv 0) pe_str (pe_op op_add (pv 3) pe_int) rfl)
 (pss_cons (ps_set (i := 4) scDraw.nd rfl (Or.inl rfl) (pe_orT (pe_dget hu (pv 0) pe_str (fun _ _ => rfl)) (pe_one (pe_lst (pa_cons pe_int pa_nil)))))
 (pss_cons (ps_set (i := 5) scDraw.nd rfl (Or.inl rfl) (pe_ix ix_list (pv 4) (pe_op op_modN (pv 3) (pe_callB call_len_seq (by rfl) ml PySem.boot_len (pa_cons (pv 4) pa_nil))) (fun _ _ => rfl)))
 (pss_cons (ps_if (PW.pt (pw_and (pt_cmpR op_ge (pv 5) (pe_op op_pow pe_int pe_int) (nomark _)) (pw_and1 (pt_cmpR op_lt (pv 3) (pe_callB call_len_seq (by rfl) ml PySem.boot_len (pa_cons (pv 4) pa_nil)) (nomark _)))))
 (pss_cons (ps_dput hu (pv 0) pe_str (pe_op op_fdivW (pe_op op_sub (pv 5) (pe_op op_pow pe_int pe_int)) (pv 1)) rfl)
 (pss_one (ps_ret (pe_op op_modN (pe_op op_sub (pv 5) (pe_op op_pow pe_int pe_int)) (pv 1))))) pss_nil)
 (pss_cons (ps_set (i := 6) scDraw.nd rfl (Or.inl rfl) (pe_lst (pa_cons pe_int (pa_cons pe_int (pa_cons pe_int (pa_cons pe_int (pa_cons pe_int (pa_cons pe_int (pa_cons pe_int pa_nil)))))))))
 (pss_cons (ps_set (i := 7) scDraw.nd rfl (Or.inl rfl) (pe_ix ix_list (pv 6) (pe_op op_modN (pv 3) pe_int) (fun _ _ => rfl)))
 (pss_cons (ps_set (i := 8) scDraw.nd rfl (Or.inl rfl) (pe_op op_modN (pe_op op_add (pe_op op_add (pe_op op_add (pe_op op_mulW (pe_op op_modN (pv 5) (pv 7)) pe_int) (pe_op op_mulW (pe_op op_mulW pe_int (pv 3)) (pv 3))) (pe_op op_mulW pe_int (pv 3))) pe_int) (pv 7)))
 (pss_cons (ps_set (i := 8) scDraw.nd rfl (Or.inl rfl) (pe_op op_modN (pe_op op_mulW (pv 8) (pe_op op_add (pv 8) pe_int)) (pe_ix ix_list (pv 6) (pe_op op_modN (pe_op op_add (pv 3) pe_int) pe_int) (fun _ _ => rfl))))
 (pss_cons (ps_set (i := 2) scDraw.nd rfl (Or.inl rfl) (pe_op op_fdivW (pe_op op_modN (pe_op op_mulW (pv 8) (pv 8)) (pv 7)) pe_int))
 (pss_cons (ps_if (pt_cmpR op_gt (pv 1) (pe_op op_pow pe_int pe_int) (nomark _))
 (pss_one (ps_set (i := 2) scDraw.nd rfl (Or.inl rfl) (pe_op op_add (pe_op op_modN (pv 2) (pe_op op_pow pe_int pe_int)) (pe_op op_mul (pe_op op_pow pe_int pe_int) (pe_call G hr (by rfl) gD F.kp b .nil pass0 (pa_cons (pv 0) (pa_cons (pe_op op_add (pe_op op_fdivW (pv 1) (pe_op op_pow pe_int pe_int)) pe_int) pa_nil))))))) pss_nil)
 (pss_one (ps_ret (pe_op op_modN (pv 2) (pv 1)))))))))))))))), ?_⟩
  obtain ⟨ns, s0, l, ht, h0, hB1, hlen⟩ := hT
  have hdv : ∀ i : Int, CDivW i m := fun i => wide_div (b := 19 * (n + 1)) (by omega) hm2 (by omega) (by omega)
  have hm0 : m ≠ 0 := by omega
  have hmp : 0 < m := by omega
  have hBn : B + ((n + 1 : Nat) : Int) = B + n + 1 := by omega
  rw [hBn] at q
  -- the number kept
  refine ⟨_, rfl, T, _, rfl, ht.gL, _, _, rfl, rfl, _, rfl, ite2 (fun c => ?_) (fun c => ?_)⟩
  · refine ⟨_, rfl, T, _, rfl, ht.gL, _, rfl, _, _, rfl, rfl, hm0, ?_⟩
    refine ⟨_, rfl, T, _, rfl, ht.gL, _, rfl, _, _, rfl, rfl, hdv _, _, rfl, T, _, rfl, ht.pL, _, rfl, ?_⟩
    exact q _ _ (fm hmp).1 (fm hmp).2 ⟨ns, s0, l / m, ht.put, h0, by omega, hlen⟩ keep_put
  -- a cell
  refine ⟨_, rfl, T, _, rfl, ht.gS, ?_⟩
  refine ⟨_, rfl, _, _, rfl, rfl, _, rfl, T, _, rfl, ht.pS, ?_⟩
  have t1 : TapeAt (upd H T (.dK (tkv L (s0 + 1) l))) T L ns (s0 + 1) l := ht.put
  refine or_cells rfl t1 hlen _ (fun C cs H2 hC hc1 hc2 sm => ?_)
  have t2 := t1.same sm
  have k2 : Keep T H H2 := Keep.trans keep_put (Keep.of sm)
  have hcl : ((cs.map V.int).length : Int) ≠ 0 := by
    rw [List.length_map]
    omega
  obtain ⟨cell, hcell⟩ := at_mod hc1 s0
  refine ⟨_, rfl, _, rfl, _, rfl, C, _, rfl, .inl hC, _, _, rfl, rfl, hcl, C, _, _, _, rfl, rfl, hC, hcell, ?_⟩
  have cp : CPow 10 18 := ⟨by decide, by decide, by decide⟩
  have cp6 : CPow 10 6 := ⟨by decide, by decide, by decide⟩
  apply cutR
  case k =>
    intro rest
    refine ⟨_, rfl, _, _, rfl, rfl, cp, _, _, rfl, rfl, _, rfl, ite2 (fun _ => ⟨_, rfl, _, rfl, C, _, rfl, .inl hC, _, _, rfl, rfl, _, rfl, ite2 (fun _ => ?ka) (fun _ => ?kb)⟩) (fun _ => ?kc)⟩
    case kb => exact rest
    case kc => exact iteF rest
    case ka =>
      refine ⟨_, rfl, _, _, rfl, rfl, cp, _, _, rfl, rfl, _, rfl, _, _, rfl, rfl, hdv _, _, rfl, T, _, rfl, t2.pL, ?_⟩
      refine ⟨_, rfl, _, _, rfl, rfl, cp, _, _, rfl, rfl, _, rfl, _, _, rfl, rfl, hm0, ?_⟩
      exact q _ _ (fm hmp).1 (fm hmp).2 ⟨ns, s0 + 1, _, t2.put, by omega, by omega, hlen⟩ (k2.trans keep_put)
  refine ⟨(by show 7 ≤ sizeLine; decide), fun p np => ?_⟩
  have sp := same_new np (.lst sevenP)
  have t3 := t2.same sp
  have k3 := k2.trans (Keep.of sp)
  have hp : SqL K (upd H2 p (.lst sevenP)) p sevenP := SqL.of upd_same
  obtain ⟨pr, e1, b1, b2⟩ := prime_at (fm (i := s0) (show (0 : Int) < 7 by decide)).1 (fm (show (0 : Int) < 7 by decide)).2
  obtain ⟨p2, e2, b3, b4⟩ := prime_at (fm (i := s0 + 3) (show (0 : Int) < 7 by decide)).1 (fm (show (0 : Int) < 7 by decide)).2
  have h7 : (7 : Int) ≠ 0 := by decide
  have pr0 : pr ≠ 0 := by omega
  have p20 : p2 ≠ 0 := by omega
  have prp : 0 < pr := by omega
  have p2p : 0 < p2 := by omega
  -- prime
  refine ⟨_, rfl, _, rfl, _, _, rfl, rfl, h7, p, _, _, _, rfl, rfl, hp, e1, ?_⟩
  -- seed
  have hs := hB1
  refine ⟨_, rfl, _, rfl, _, _, rfl, rfl, pr0, _, _, rfl, rfl, mul64 (fm prp).1 (by have := (fm (i := cell) prp).2; omega) (by decide) (by decide), _, rfl, _, _, rfl, rfl, mul64 (by decide) (by decide) h0 (by omega), _, rfl, _, _, rfl, rfl,
    mul64 (by omega) (by omega) h0 (by omega), _, _, rfl, rfl, _, rfl, _, _, rfl, rfl, mul64 (by decide) (by decide) h0 (by omega), _, _, rfl, rfl, _, _, rfl, rfl, _, rfl, _, _, rfl, rfl, pr0, ?_⟩
  have z1 := fm (i := cell.fmod pr * 48271 + 7919 * s0 * s0 + 69621 * s0 + 1) prp
  refine ⟨_, rfl, _, rfl, _, _, rfl, rfl, _, _, rfl, rfl, mul64 z1.1 (by omega) (by omega) (by omega), _, rfl, _, rfl, _, _, rfl, rfl, _, _, rfl, rfl, h7, p, _, _, _, rfl, rfl, hp, e2, _, _, rfl, rfl, p20, ?_⟩
  have z2 := fm (i := (cell.fmod pr * 48271 + 7919 * s0 * s0 + 69621 * s0 + 1).fmod pr * ((cell.fmod pr * 48271 + 7919 * s0 * s0 + 69621 * s0 + 1).fmod pr + 16807)) p2p
  refine ⟨_, rfl, _, rfl, _, _, rfl, rfl, mul64 z2.1 (by omega) z2.1 (by omega), _, rfl, _, _, rfl, rfl, pr0, _, _, rfl, rfl, wide_div (b := 7) (by decide) (by decide) (by decide) (by decide), ?_⟩
  have e6 : (10 : Int) ^ (6 : Int).toNat = 1000000 := by decide
  have n6 : (10 : Int) ^ (6 : Int).toNat ≠ 0 := by decide
  have d6 : ∀ i : Int, CDivW i ((10 : Int) ^ (6 : Int).toNat) := fun i => wide_div (b := 20) (by decide) (by decide) (by decide) (by decide)
  refine ⟨_, rfl, _, _, rfl, rfl, cp6, _, _, rfl, rfl, _, rfl, ite2 (fun c => ?_) (fun c => ?_)⟩
  · have c' : 1000000 < m := by
      have c2 := of_decide_eq_true c
      rw [e6] at c2
      exact c2
    obtain ⟨l1, l2⟩ := less_draw c' hm2
    rw [← e6] at l1 l2
    refine ⟨_, rfl, _, _, rfl, rfl, cp6, _, _, rfl, rfl, n6, _, _, rfl, rfl, cp6, _, rfl, _, rfl, _, _, rfl, rfl, cp6, _, _, rfl, rfl, d6 _, _, _, rfl, rfl, ?_⟩
    refine ⟨T, L, _, B + 1, rfl, l1, l2, by omega, ⟨ns, s0 + 1, l, t3, by omega, by omega, hlen⟩, fun H3 r r0 r1 t4 k4 => ?_⟩
    refine ⟨_, _, rfl, rfl, .inl ⟨by decide, by decide⟩, _, _, rfl, rfl, ?_⟩
    refine ⟨_, rfl, _, rfl, _, _, rfl, rfl, hm0, ?_⟩
    exact q _ _ (fm hmp).1 (fm hmp).2 (t4.more (by omega)) (k3.trans k4)
  · refine ⟨_, rfl, _, rfl, _, _, rfl, rfl, hm0, ?_⟩
    exact q _ _ (fm hmp).1 (fm hmp).2 ⟨ns, s0 + 1, l, t3, by omega, by omega, hlen⟩ k3
theorem no_draw : FnOk P w K mg base CX0 0 f fd ["_law_tape_here", "_law_many"] (spDraw 0) := by
  have no : ∀ vs H Q E, ¬ spDraw 0 vs H Q E := fun vs H Q E h => by
    obtain ⟨T, L, m, B, _, h1, h2, _⟩ := h
    have h3 : m.natAbs < 1 := h2
    omega
  exact ⟨fun vs H Q E h => absurd h (no vs H Q E), fun A outer s H args us vs Q E _ _ _ _ h => absurd h (no vs H Q E)⟩
theorem all_draw (F : FnP K "_law_draw" sDraw f fd) (b : Binds K fd ["_law_tape_here", "_law_many"] []) (gD : mg "_law_draw" = some (.ref f)) (ml : mg "len" = none) :
    ∀ n : Nat, n ≤ 20 → FnOk P w K mg base CX0 n f fd ["_law_tape_here", "_law_many"] (spDraw n)
  | 0, _ => no_draw
  | n + 1, h => ok_draw (by omega) F (all_draw F b gD ml n (by omega)) b gD ml
end
end My

set_option maxRecDepth 100000
set_option maxHeartbeats 4000000
namespace My
open PySem PySem.Spec PyProof.Rows L2
abbrev sWords : Stmt := top 15
theorem scWords : FnScope ["_law_tape_here", "_law_many", "_law_letters", "_law_own", "_law_k", "_law_base", "_law_found", "_law_letter", "_law_some", "_law_word", "_law_more"] ["_law_tape_here", "_law_many"] (defScope sWords) := ⟨rfl, rfl, rfl, by decide +kernel, rfl, by decide +kernel, by decide +kernel⟩
abbrev abc : Str := "abcdefghijklmnopqrstuvwxyz"
def own8 : List Str := Txt.split ("nota andy org isa yesno given noa same" : Str) (" " : Str)
theorem own8_len : own8.length = 8 := by decide +kernel
theorem own8_le : ∀ z ∈ own8, z.length ≤ 8 := by decide +kernel
theorem join_le : ∀ ys : List Str, (∀ z ∈ ys, z.length ≤ 1) → (Str.join ("" : Str) ys).length ≤ ys.length
  | [], _ => Nat.le_refl _
  | [x], h => h x (List.mem_singleton_self x)
  | x :: y :: r, h => by
    have e : Str.join ("" : Str) (x :: y :: r) = x ++ ("" : Str) ++ Str.join ("" : Str) (y :: r) := rfl
    have i := join_le (y :: r) (fun z hz => h z (List.mem_cons_of_mem _ hz))
    have g := h x List.mem_cons_self
    have z0 : (("" : Str)).length = 0 := by decide
    rw [e, strLen_append, strLen_append, z0, List.length_cons]
    omega
theorem sum_le : ∀ ys : List Str, (∀ z ∈ ys, z.length ≤ 1) → (ys.map (fun x => x.length)).sum ≤ ys.length
  | [], _ => Nat.le_refl _
  | x :: r, h => by
    have i := sum_le r (fun z hz => h z (List.mem_cons_of_mem _ hz))
    have g := h x List.mem_cons_self
    rw [List.map_cons, List.sum_cons, List.length_cons]
    omega
theorem one_len (c : Nat) : (⟨#[c]⟩ : Str).length = 1 := rfl
theorem cut_le {z : Str} {k : Nat} : (cutS z none (some (k : Int))).length ≤ k := by
  unfold cutS
  show ((z.cps.toList.drop _).take _).toArray.size ≤ k
  rw [List.size_toArray, List.length_take, HT.sIx_nat, HT.sIx_none]
  omega
theorem cut8 (z : Str) : (cutS z none (some 8)).length ≤ 8 := cut_le (k := 8)
theorem cut7 (z : Str) : (cutS z none (some 7)).length ≤ 7 := cut_le (k := 7)
theorem abc_at {r : Int} (h0 : 0 ≤ r) (h1 : r < 26) : ∃ c, atI abc.cps.toList r = some c := by
  have e : abc.cps.toList.length = 26 := by decide +kernel
  obtain ⟨c, _, h⟩ := at_in (xs := abc.cps.toList) h0 (by rw [e]; exact h1)
  exact ⟨c, h⟩
theorem flat_strs (ws : List Str) : (ws.map V.str).all flatV = true := by
  rw [List.all_map]
  exact List.all_eq_true.mpr fun _ _ => rfl
theorem small {n : Nat} (h : n ≤ 1000) : n ≤ sizeLine := Nat.le_of_lt (small1000 h)
def spWords (K : PySem.W.Frag) : Sp := fun vs H Q _ => ∃ (T L : Addr) (n : Nat) (B : Int), vs = [.ref T, .int n] ∧ n ≤ 12 ∧ B + 2000 ≤ 1000000 ∧ Tape H T L B ∧
  ∀ (H' : Hp) (p : Addr) (ws : List Str), ws.length = n → (∀ z ∈ ws, z.length ≤ 8) → H' p = some (.lst (ws.map V.str)) → H p = none → Tape H' T L (B + 1000) → Keep T H H' → Q (.ref p) H'
section
variable {P : Program} {w : World} {K : PySem.W.Frag} {mg : Str → Option Value} {base : Heap} {f fD : Addr} {fd fdD : FuncData}
theorem ok_words {k : Nat} (hk : 11 ≤ k) (F : FnP K "_law_words" sWords f fd) (G : FnOk P w K mg base CX0 11 fD fdD ["_law_tape_here", "_law_many"] (spDraw 11)) (b : Binds K fdD ["_law_tape_here", "_law_many"] []) (gD : mg "_law_draw" = some (.ref fD)) (kD : PySem.W.keepIn K (.ref fD) = true) (mr : mg "range" = none) :
    FnOk P w K mg base CX0 (k + 1) f fd ["_law_tape_here", "_law_many"] (spWords K) := by
  refine F.ok scWords (fun vs H Q E h => ?_) (fun cdv A outer s H vs Q E hr0 h => ?_)
  · obtain ⟨T, L, n, B, rfl, _⟩ := h
    rfl
  obtain ⟨T, L, n, B, rfl, hn, hB, hT, q⟩ := h
  have hu := hu_of hr0
  have hr : Room 11 _ := hr0.mono hk
  refine ⟨_, PSs.nox (pss_cons (ps_set (i := 2) scWords.nd rfl (Or.inr rfl) pe_str)
 (pss_cons (ps_set (i := 3) scWords.nd rfl (Or.inl rfl) (pe_split pe_str pe_str))
 (pss_cons (ps_set (i := 5) scWords.nd rfl (Or.inl rfl) (pe_join pe_str (pe_lc (own := [("_law_k", 4)]) (g := gName 4) (tt := tYes) (by rfl) scWords.nd (pi_range1 (by rfl) mr (pa_cons (pe_op op_add pe_int (pe_call G hr (by rfl) gD kD b .nil pass0 (pa_cons (pv 0) (pa_cons pe_int pa_nil)))) pa_nil)) (blkOk_by (own := [("_law_k", 4)]) (N := ["_law_tape_here", "_law_many", "_law_letters", "_law_own", "_law_k", "_law_base", "_law_found", "_law_letter", "_law_some", "_law_word", "_law_more"]) (sc := defScope sWords) (by decide +kernel)) (fun _ _ _ _ _ => pg_name (i := 4) scWords.nd rfl (Or.inl rfl)) (fun _ _ _ _ _ => pts_nil) (fun _ _ _ _ _ => (pe_ix ix_str (pv 2) (pe_call G hr (by rfl) gD kD b .nil pass0 (pa_cons (pv 0) (pa_cons pe_int pa_nil))) (fun _ _ => rfl))))))
 (pss_cons (ps_set (i := 6) scWords.nd rfl (Or.inl rfl) (pe_lst pa_nil))
 (pss_cons (ps_for PassesOwn.never rfl (pi_range1 (by rfl) mr (pa_cons (pv 1) pa_nil)) (pg_name (i := 4) scWords.nd rfl (Or.inl rfl))
 (pss_cons (ps_set (i := 7) scWords.nd rfl (Or.inl rfl) (pe_ix ix_str (pv 2) (pe_call G hr (by rfl) gD kD b .nil pass0 (pa_cons (pv 0) (pa_cons pe_int pa_nil))) (fun _ _ => rfl)))
 (pss_cons (ps_set (i := 8) scWords.nd rfl (Or.inl rfl) (pe_lst (pa_cons (pv 5) (pa_cons (pe_op op_add_str (pv 5) (pv 7)) (pa_cons (pe_op op_add_str (pv 7) (pv 5)) (pa_cons (pv 7) (pa_cons (pe_op op_add_str (pe_op op_add_str (pv 5) (pv 7)) (pv 7)) (pa_cons (pe_ix ix_list (pv 3) (pe_call G hr (by rfl) gD kD b .nil pass0 (pa_cons (pv 0) (pa_cons pe_int pa_nil))) (fun _ _ => rfl)) pa_nil))))))))
 (pss_cons (ps_set (i := 9) scWords.nd rfl (Or.inl rfl) (pe_slice sl_str (pe_ix ix_list (pv 8) (pe_call G hr (by rfl) gD kD b .nil pass0 (pa_cons (pv 0) (pa_cons pe_int pa_nil))) (fun _ _ => rfl)) po_none (po_some pe_int)))
 (pss_cons (ps_for PassesOwn.never rfl (pi_str (pv 2)) (pg_name (i := 10) scWords.nd rfl (Or.inl rfl))
 (pss_one (ps_if (PW.pt (pw_or (pt_cmpR op_in_seq (pv 9) (pv 6) rfl) (pw_or1 (pt_cmpR op_in_seq (pv 9) (pe_tup (pa_cons pe_str (pa_cons pe_str (pa_cons pe_str (pa_cons pe_str (pa_cons pe_str (pa_cons pe_str (pa_cons pe_str pa_nil)))))))) rfl))))
 (pss_one (ps_set (i := 9) scWords.nd rfl (Or.inl rfl) (pe_op op_add_str (pe_slice sl_str (pv 9) po_none (po_some pe_int)) (pv 10)))) pss_nil)))
 (pss_one (ps_expr (pe_bm PySem.F.plainAttrs_list PySem.F.slot_list_append PySem.F.type_list_append mt_append (pv 6) (pa_cons (pv 9) pa_nil)))))))))
 (pss_one (ps_ret (pv 6)))))))), ?_⟩
  have habc : abc.length ≤ sizeLine := by decide +kernel
  refine ⟨⟨_, rfl⟩, _, _, rfl, rfl, (by decide +kernel), (by decide +kernel), fun pO nO => ?_⟩
  have sO : Same H (upd H pO (.lst (own8.map V.str))) := same_new nO _
  have tO := hT.same sO
  have oT : pO ≠ T := hT.nT nO
  have oL : pO ≠ L := hT.nL nO
  -- base
  refine ⟨⟨_, rfl⟩, _, rfl, T, L, 6, B, rfl, by decide, by decide, by omega, tO, fun H1 r r0 r1 t1 k1 => ?_⟩
  have e1 : H1 pO = some (.lst (own8.map V.str)) := k1 _ _ upd_same oT
  refine ⟨_, _, rfl, rfl, _, rfl, by omega, by omega, fun D nD => lc_range (lo := 0) (n := (1 + r).toNat) (fun i H' => ∃ ws : List Str, H' D = some (.lst (ws.map V.str)) ∧ ws.length = i ∧ (∀ z ∈ ws, z.length ≤ 1) ∧
    Tape H' T L (B + 11 + 11 * i) ∧ Keep T H H' ∧ H' pO = some (.lst (own8.map V.str))) ?_ ?_ ?_⟩
  · refine ⟨[], upd_same, rfl, (fun z hz => by cases hz), (t1.same (same_new nD _)).more (by omega), ((Keep.of sO).trans k1).trans (Keep.of (same_new nD _)), same_new nD _ _ _ e1⟩
  · rintro i H2 hi ⟨ws, eD, hl, hz, tp, kp, eO⟩
    have dT : D ≠ T := t1.nT nD
    have dL : D ≠ L := t1.nL nD
    refine ⟨rfl, ?_⟩
    refine ⟨_, rfl, _, rfl, T, L, 26, _, rfl, by decide, by decide, by omega, tp, fun H3 r3 a0 a1 t3 k3 => ?_⟩
    obtain ⟨c, hc⟩ := abc_at a0 a1
    have dO : pO ≠ D := ne_of_none e1 nD
    refine ⟨_, _, c, rfl, rfl, habc, hc, _, k3 _ _ eD dT, (by rw [List.length_map]; exact small1000 (by omega)), ws ++ [⟨#[c]⟩], ?_, ?_, ?_, (t3.put dT dL).more (by omega), ?_, ?_⟩
    · rw [upd_same, List.map_append]
      rfl
    · rw [List.length_append, hl]
      rfl
    · intro z hz'
      rcases List.mem_append.mp hz' with h | h
      · exact hz z h
      · rw [List.mem_singleton.mp h]
        exact Nat.le_refl _
    · intro b o h n
      have hb : b ≠ D := fun z => by
        have y : H1 b = some o := k1 _ _ (sO _ _ h) n
        rw [z, nD] at y
        cases y
      rw [upd_ne hb]
      exact k3 _ _ (kp _ _ h n) n
    · rw [upd_ne dO]
      exact k3 _ _ eO oT
  rintro H2 ⟨bs, eD, hl, hz, t2, k2, e2⟩
  have hbs : bs.length ≤ 7 := by omega
  refine ⟨_, D, bs, rfl, rfl, .inl (SqL.of eD), ?_, ?_⟩
  · have z0 : (("" : Str)).length = 0 := by decide
    have y := sum_le bs hz
    rw [z0]
    omega
  have hbl : (Txt.join ("" : Str) bs).length ≤ 7 := by
    rw [TL.join_eq]
    exact Nat.le_trans (join_le bs hz) hbs
  generalize Txt.join ("" : Str) bs = bse at hbl
  -- found = []
  refine ⟨Nat.zero_le _, fun pF nF => ?_⟩
  have fT : pF ≠ T := t2.nT nF
  have fL : pF ≠ L := t2.nL nF
  have fO : pO ≠ pF := ne_of_none e2 nF
  have nF0 : H pF = none := k2.free nF fT
  have s2 := same_new nF (.lst [])
  have hn2 : ((n : Nat) : Int).toNat = n := Int.toNat_natCast n
  refine ⟨_, rfl, _, rfl, by omega, by omega, for_range (lo := 0) (n := ((n : Nat) : Int).toNat) (fun i σ H' => ∃ (kk l sm wd mo : Option V) (ws : List Str),
    σ = [some (.ref T), some (.int n), some (.str abc), some (.ref pO), kk, some (.str bse), some (.ref pF), l, sm, wd, mo] ∧ ws.length = i ∧ (∀ z ∈ ws, z.length ≤ 8) ∧
    H' pF = some (.lst (ws.map V.str)) ∧ H' pO = some (.lst (own8.map V.str)) ∧ Tape H' T L (B + 100 + 33 * i) ∧ Keep T H H') ?_ ?_ ?_⟩
  · exact ⟨_, _, _, _, _, [], rfl, rfl, (fun z hz => by cases hz), upd_same, s2 _ _ e2, (t2.same s2).more (by omega), k2.trans (Keep.of s2)⟩
  · rintro i σ H3 hi ⟨kk, l, sm, wd, mo, ws, rfl, hl, hw, eF, eO, tp, kp⟩
    have hwn : ws.length ≤ 12 := by omega
    -- letter
    refine ⟨_, rfl, _, rfl, T, L, 26, _, rfl, by decide, by decide, by omega, tp, fun H4 r4 a0 a1 t4 k4 => ?_⟩
    obtain ⟨c, hc⟩ := abc_at a0 a1
    refine ⟨_, _, c, rfl, rfl, habc, hc, ?_⟩
    have l1 : (⟨#[c]⟩ : Str).length = 1 := rfl
    have z1 : bse.length + (⟨#[c]⟩ : Str).length ≤ sizeLine := small (by omega)
    have z2 : (⟨#[c]⟩ : Str).length + bse.length ≤ sizeLine := small (by omega)
    have z3 : (bse ++ (⟨#[c]⟩ : Str)).length + (⟨#[c]⟩ : Str).length ≤ sizeLine := by
      rw [strLen_append]
      exact small (by omega)
    refine ⟨_, rfl, _, rfl, _, rfl, _, _, rfl, rfl, z1, _, rfl, _, rfl, _, _, rfl, rfl, z2, _, rfl, _, rfl, _, rfl, _, _, rfl, rfl, z1, _, rfl, _, _, rfl, rfl, z3, ?_⟩
    refine ⟨_, rfl, _, rfl, T, L, 8, _, rfl, by decide, by decide, by omega, t4, fun H5 r5 a2 a3 t5 k5 => ?_⟩
    have eO5 := k5 _ _ (k4 _ _ eO oT) oT
    have eF5 := k5 _ _ (k4 _ _ eF fT) fT
    obtain ⟨vo, ho1, ho2⟩ := at_in (xs := own8.map V.str) a2 (by rw [List.length_map, own8_len]; exact a3)
    obtain ⟨o1, ho3, rfl⟩ := List.mem_map.mp ho1
    refine ⟨pO, _, _, _, rfl, rfl, SqL.of eO5, ho2, (by show 6 ≤ sizeLine; decide), fun pS nS => ?_⟩
    have s5 := same_new nS (.lst [.str bse, .str (bse ++ (⟨#[c]⟩ : Str)), .str ((⟨#[c]⟩ : Str) ++ bse), .str ⟨#[c]⟩, .str (bse ++ (⟨#[c]⟩ : Str) ++ (⟨#[c]⟩ : Str)), .str o1])
    -- word
    refine ⟨_, rfl, _, rfl, T, L, 6, _, rfl, by decide, by decide, by omega, t5.same s5, fun H6 r6 a4 a5 t6 k6 => ?_⟩
    have sT : pS ≠ T := t5.nT nS
    have eS6 := k6 _ _ upd_same sT
    have eO6 := k6 _ _ (s5 _ _ eO5) oT
    have eF6 := k6 _ _ (s5 _ _ eF5) fT
    have k06 : Keep T H H6 := (((kp.trans k4).trans k5).trans (Keep.of s5)).trans k6
    have six : ∃ z : Str, atI ([.str bse, .str (bse ++ (⟨#[c]⟩ : Str)), .str ((⟨#[c]⟩ : Str) ++ bse), .str ⟨#[c]⟩, .str (bse ++ (⟨#[c]⟩ : Str) ++ (⟨#[c]⟩ : Str)), .str o1] : List V) r6 = some (.str z) ∧ z.length ≤ 16 := by
      have g := own8_le o1 ho3
      have c6 : r6 = 0 ∨ r6 = 1 ∨ r6 = 2 ∨ r6 = 3 ∨ r6 = 4 ∨ r6 = 5 := by omega
      rcases c6 with rfl | rfl | rfl | rfl | rfl | rfl
      · exact ⟨_, rfl, by omega⟩
      · exact ⟨_, rfl, by rw [strLen_append]; omega⟩
      · exact ⟨_, rfl, by rw [strLen_append]; omega⟩
      · exact ⟨_, rfl, by omega⟩
      · exact ⟨_, rfl, by rw [strLen_append, strLen_append]; omega⟩
      · exact ⟨_, rfl, by omega⟩
    obtain ⟨z, hz1, hz2⟩ := six
    refine ⟨pS, _, _, _, rfl, rfl, SqL.of eS6, hz1, 8, rfl, z, rfl, small (by omega), ?_⟩
    have zl := cut8 z
    generalize cutS z none (some 8) = wd0 at zl
    -- for more in letters
    refine ⟨_, rfl, _, rfl, for_it walk_str (fun j σ H' => ∃ (wd : Str) (mo : Option V), σ = [some (.ref T), some (.int n), some (.str abc), some (.ref pO), some (.int (0 + i)), some (.str bse), some (.ref pF), some (.str ⟨#[c]⟩), some (.ref pS), some (.str wd), mo] ∧ wd.length ≤ 8 ∧ Same H6 H') ?_ (fun _ _ _ _ _ => trivial) ?_ ?_⟩
    · exact ⟨wd0, mo, rfl, zl, Same.refl _⟩
    · rintro j x σ H7 H8 hj ⟨wd1, mo1, rfl, wl, sm7⟩ ⟨rfl, c2, hc2, rfl⟩
      have eF7 := sm7 _ _ eF6
      refine ⟨_, rfl, _, rfl, pF, _, rfl, .inl (SqL.of eF7), rfl, flat_strs ws, _, rfl, ?_⟩
      have y1 : (cutS wd1 none (some 7)).length + (⟨#[c2]⟩ : Str).length ≤ 8 := by
        have := cut7 wd1
        have e : (⟨#[c2]⟩ : Str).length = 1 := rfl
        omega
      refine ite2 (fun _ => ?_) (fun _ => ?_)
      · refine iteT ?_
        refine ⟨_, rfl, 7, rfl, _, rfl, small (by omega), _, rfl, _, _, rfl, rfl, small (by omega), _, _, rfl, (by rw [strLen_append]; exact y1), sm7⟩
      · refine ⟨_, rfl, (by show 7 ≤ sizeLine; decide), fun pT nT => ⟨pT, _, rfl, .inr (SqT.of upd_same), rfl, (by decide), _, rfl, ?_⟩⟩
        have s8 := same_new nT (.tup [.str "not", .str "and", .str "or", .str "gives", .str "is", .str "yes", .str "no"])
        refine ite2 (fun _ => ?_) (fun _ => ?_)
        · refine ⟨_, rfl, 7, rfl, _, rfl, small (by omega), _, rfl, _, _, rfl, rfl, small (by omega), _, _, rfl, (by rw [strLen_append]; exact y1), sm7.trans s8⟩
        · exact ⟨wd1, _, rfl, wl, sm7.trans s8⟩
    · rintro σ H7 ⟨wd1, mo1, rfl, wl, sm7⟩
      have eF7 := sm7 _ _ eF6
      refine ⟨_, rfl, .inl ⟨rfl, _, SqL.of eF7⟩, _, rfl, pF, _, _, rfl, rfl, eF7, (by rw [List.length_map]; exact small1000 (by omega)), ?_⟩
      refine ⟨_, _, _, _, _, ws ++ [wd1], rfl, (by rw [List.length_append, hl]; rfl), ?_, ?_, ?_, ?_, ?_⟩
      · intro y hy
        rcases List.mem_append.mp hy with h | h
        · exact hw y h
        · rw [List.mem_singleton.mp h]
          exact wl
      · rw [upd_same, List.map_append]
        rfl
      · rw [upd_ne fO]
        exact sm7 _ _ eO6
      · exact ((t6.same sm7).put fT fL).more (by omega)
      · intro b o h m
        rw [upd_ne (ne_of_none h nF0)]
        exact sm7 _ _ (k06 _ _ h m)
  · rintro σ H3 ⟨kk, l, sm, wd, mo, ws, rfl, hl, hw, eF, eO, tp, kp⟩
    refine ⟨_, rfl, q H3 pF ws (by omega) hw eF nF0 (tp.more (by omega)) kp⟩
end
end My

set_option maxRecDepth 100000
set_option maxHeartbeats 4000000
namespace L2
open PySem PySem.Spec PyProof.Rows
/-- d.get(e), d a dict of the module with text keys -/
def tKGet (K : PySem.W.Frag) (d : Addr) (td ty : TE) : TE := fun σ H Q => td σ H fun x H1 => x = .ref d ∧ ty σ H1 fun y H2 => ∃ (z : Str) (r : Option Value) (v : V), y = .str z ∧ PySem.W.nsIn K d z = some r ∧ RelV v (r.getD .none) ∧ Q v H2
theorem pe_kget1 {X : Cx} {d : Addr} {es : Array DictEntry} {n : Nat} {o e : Expr} {td ty : TE} {apos cpos : Pos} (D : KDict X.K X.w d es n) (oo : PE X o td) (ee : PE X e ty) (m : M1 X o "get" apos e cpos) : PE X (.Call (.Attribute o "get" apos) [e] [] cpos) (tKGet X.K d td ty) := by
  refine ⟨fun pins s σ H Q I h => ?_⟩
  refine wpAny_Call_method m.base m.few m.line PySem.F.plainAttrs_dict PySem.F.slot_dict_get PySem.F.type_dict_get (thn (oo.run pins s σ H _ I h) fun u s1 ⟨x, H1, I1, rx, ex, q1⟩ => ?_)
  subst ex
  obtain rfl : u = Value.ref d := rx
  refine ⟨(PySem.W.mapOf_K (prog := X.prog) (w := X.w) I1.kIn D.at_ D.lit).typeIs, fun b q => ?_, ?_⟩
  · cases q
    exact ⟨_, I1.kIn _ _ D.at_, rfl⟩
  rw [m.trees]
  refine Calls.callWith_builtin rfl (Calls.evalArgs_plain (Calls.spliced_cons (thn (ee.run pins s1 σ H1 _ I1 q1) fun iv s2 ⟨y, H2, I2, ry, z, r, v, ey, en, rv, q2⟩ => Calls.spliced_nil ?_)))
  subst ey
  obtain ⟨t, rfl⟩ := ry
  refine call_meetsIn PySem.F.slot_dict_get (PySem.W.mapOf_K (prog := X.prog) (w := X.w) I2.kIn D.at_ D.lit).typeIs PySem.F.entry_dict_get (PySem.F.args_dict_get_2 _ _)
    (meets_dict_get (strKind X.prog X.w) d (PySem.strKind_is X.prog X.w z t) D.low) ⟨_, PySem.W.mapOf_K (prog := X.prog) (w := X.w) I2.kIn D.at_ D.lit, ?_⟩
  rw [PySem.W.find_K D.at_ en]
  exact ⟨v, H2, I2.tok _, rv, q2⟩
end L2
namespace My
open PySem PySem.Spec PyProof.Rows L2
abbrev sWord : Stmt := top 4
abbrev sParts : Stmt := top 9
abbrev sForm : Stmt := top 10
theorem scWord : FnScope ["thing", "sign"] ["thing"] (defScope sWord) := ⟨rfl, rfl, rfl, by decide +kernel, rfl, by decide +kernel, by decide +kernel⟩
theorem scParts : FnScope ["saying"] ["saying"] (defScope sParts) := ⟨rfl, rfl, rfl, by decide +kernel, rfl, by decide +kernel, by decide +kernel⟩
theorem scForm : FnScope ["thing"] ["thing"] (defScope sForm) := ⟨rfl, rfl, rfl, by decide +kernel, rfl, by decide +kernel, by decide +kernel⟩
/-! ### things -/
def tyD : PyData → String
  | .none => "NoneType"
  | .bool _ => "bool"
  | .int _ => "int"
  | .str _ => "str"
  | .list _ => "list"
  | .tuple _ => "tuple"
  | .dict _ => "dict"
def isStr : PyData → Bool
  | .str _ => true
  | _ => false
def isTup : PyData → Bool
  | .tuple _ => true
  | _ => false
theorem ty_list {K : PySem.W.Frag} {H : Hp} {a : Addr} {xs : List V} (h : SqL K H a xs) : TyX K H (.ref a) (.type "list") := by
  rcases h with (h | ⟨o, h⟩) | ⟨o, its, n, h1, h2, _⟩
  · exact .base (.lst h)
  · exact .base (.frz h)
  · exact .kList h1 h2
theorem ty_tup {K : PySem.W.Frag} {H : Hp} {a : Addr} {xs : List V} (h : SqT K H a xs) : TyX K H (.ref a) (.type "tuple") := by
  rcases h with (h | ⟨o, h⟩) | ⟨o, its, n, h1, h2, _⟩
  · exact .base (.tup h)
  · exact .fTuple h
  · exact .kTuple h1 h2
theorem dp_ty {K : PySem.W.Frag} {H : Hp} {v : V} {d : PyData} (h : Dp K H v d) : TyX K H v (.type (tyD d)) := by
  cases h with
  | non => exact .base .non
  | bl b => exact .base (.bl b)
  | int i => exact .base (.int i)
  | str x => exact .base (.str x)
  | lst h _ => exact ty_list h
  | tup h _ => exact ty_tup h
theorem kit_str (d : PyData) : kitB (tyD d) "str" = some (isStr d) := by
  cases d with
  | none => exact (by decide +kernel : kitB "NoneType" "str" = some false)
  | bool _ => exact (by decide +kernel : kitB "bool" "str" = some false)
  | int _ => exact (by decide +kernel : kitB "int" "str" = some false)
  | str _ => exact (by decide +kernel : kitB "str" "str" = some true)
  | list _ => exact (by decide +kernel : kitB "list" "str" = some false)
  | tuple _ => exact (by decide +kernel : kitB "tuple" "str" = some false)
  | dict _ => exact (by decide +kernel : kitB "dict" "str" = some false)
theorem kit_tup (d : PyData) : kitB (tyD d) "tuple" = some (isTup d) := by
  cases d with
  | none => exact (by decide +kernel : kitB "NoneType" "tuple" = some false)
  | bool _ => exact (by decide +kernel : kitB "bool" "tuple" = some false)
  | int _ => exact (by decide +kernel : kitB "int" "tuple" = some false)
  | str _ => exact (by decide +kernel : kitB "str" "tuple" = some false)
  | list _ => exact (by decide +kernel : kitB "list" "tuple" = some false)
  | tuple _ => exact (by decide +kernel : kitB "tuple" "tuple" = some true)
  | dict _ => exact (by decide +kernel : kitB "dict" "tuple" = some false)
theorem is_str {K : PySem.W.Frag} {σ : L2.St} {H : Hp} {i : Nat} {v : V} {d : PyData} (e : σ[i]? = some (some v)) (h : Dp K H v d) (Q : VK) (q : Q (.bl (isStr d)) H) : tCB (rIsi K) (tCons (tVar i) (tCons (tC (.ty "str")) tNil)) σ H Q :=
  ⟨_, e, v, .ty "str", _, _, _, rfl, .ty _, dp_ty h, kit_ty (kit_str d), q⟩
theorem is_tup {K : PySem.W.Frag} {σ : L2.St} {H : Hp} {i : Nat} {v : V} {d : PyData} (e : σ[i]? = some (some v)) (h : Dp K H v d) (Q : VK) (q : Q (.bl (isTup d)) H) : tCB (rIsi K) (tCons (tVar i) (tCons (tC (.ty "tuple")) tNil)) σ H Q :=
  ⟨_, e, v, .ty "tuple", _, _, _, rfl, .ty _, dp_ty h, kit_ty (kit_tup d), q⟩
theorem at0 {α : Type} {x : α} {xs : List α} : atI (x :: xs) 0 = some x := atI_nat (j := 0) rfl
theorem at1 {α : Type} {x y : α} {xs : List α} : atI (x :: y :: xs) 1 = some y := atI_nat (j := 1) rfl
theorem dp_len {K : PySem.W.Frag} {H : Hp} : ∀ {vs : List V} {ds : List PyData}, DpAll K H vs ds → vs.length = ds.length
  | _, _, .nil => rfl
  | _, _, .cons _ h => congrArg Nat.succ (dp_len h)
/-! ### what the module holds -/
def barred : List Str := ["not", "and", "or", "gives", "is", "yes", "no"]
def lens (x : Str) : Option Int := if x = "yes" then some 1 else if x = "no" then some 1 else if x = "name" then some 2 else if x = "not" then some 2 else if x = "and" then some 3 else if x = "or" then some 3 else if x = "if" then some 3 else if x = "same" then some 3 else none
def lensV (x : Str) : V := match lens x with
  | some n => .int n
  | none => .non
theorem scal_lens (i : Int) (x : Str) : scal (.int i) (lensV x) = true := by
  unfold lensV
  cases lens x <;> rfl
structure Txt (K : PySem.W.Frag) (w : World) (mg : Str → Option Value) (aB aL fW : Addr) (dW : FuncData) (es : Array DictEntry) (n : Nat) : Prop where
  gML : ∃ t, mg "MOST_LETTERS" = some (.int 8 t)
  gSL : ∃ t, mg "SMALL_LETTERS" = some (.str abc t)
  gB : mg "BARRED" = some (.ref aB)
  bB : ∀ H, SqT K H aB (barred.map V.str)
  gLE : mg "LENGTHS" = some (.ref aL)
  D : KDict K w aL es n
  at_ : ∀ z, ∃ r, PySem.W.nsIn K aL z = some r ∧ RelV (lensV z) (r.getD .none)
  gW : mg "is_word" = some (.ref fW)
  kW : PySem.W.keepIn K (.ref fW) = true
  bW : Binds K dW ["thing"] []
  mstr : mg "str" = none
  mtuple : mg "tuple" = none
  mi : mg "isinstance" = none
  ma : mg "all" = none
  ml : mg "len" = none
def wordB (x : Str) : Bool := decide ((1 : Int) ≤ (x.length : Int)) && (decide ((x.length : Int) ≤ 8) && (!inV (.str x) (barred.map V.str) && (x.cps.toList.map fun c => decide (c ∈ abc.cps.toList)).all id))
def wordD : PyData → Bool
  | .str x => wordB x
  | _ => false
def few : PyData → Prop
  | .str x => x.length ≤ 1000
  | _ => True
def spWord (K : PySem.W.Frag) : Sp := fun vs H Q _ => ∃ (v : V) (d : PyData), vs = [v] ∧ Dp K H v d ∧ few d ∧ ∀ H', Same H H' → Q (.bl (wordD d)) H'
def spParts (K : PySem.W.Frag) : Sp := fun vs H Q _ => ∃ (a : Addr) (x : Str) (xs : List V), vs = [.ref a] ∧ SqT K H a (.str x :: xs) ∧ xs.length ≤ 1000 ∧ ∀ (H' : Hp) (p : Addr), Same H H' → SqT K H' p (if x = "name" then [] else xs) → Q (.ref p) H'
def headWord : List PyData → Bool
  | c :: _ => wordD c
  | [] => false
/-- of the right form, whatever its parts are -/
def formD : PyData → Bool
  | .tuple (.str x :: r) => decide (lens x = some ((r.length : Int) + 1)) && (decide (x ≠ "name") || headWord r)
  | _ => false
def spForm (K : PySem.W.Frag) : Sp := fun vs H Q _ => ∃ (v : V) (d : PyData), vs = [v] ∧ Dp K H v d ∧ (∀ ds, d = .tuple ds → ds.length ≤ 1000 ∧ ∀ c ∈ ds, few c) ∧ ∀ H', Same H H' → Q (.bl (formD d)) H'
section
variable {P : Program} {w : World} {K : PySem.W.Frag} {mg : Str → Option Value} {base : Heap} {f aB aL fW : Addr} {fd dW : FuncData} {es : Array DictEntry} {n : Nat}
theorem ok_word {k : Nat} (F : FnP K "is_word" sWord f fd) (T : Txt K w mg aB aL fW dW es n) : FnOk P w K mg base CX0 (k + 1) f fd ["thing"] (spWord K) := by
  refine F.ok scWord (fun vs H Q E h => ?_) (fun cdv A outer s H vs Q E hr h => ?_)
  · obtain ⟨v, d, rfl, _⟩ := h
    rfl
  obtain ⟨v, d, rfl, hd, hf, q⟩ := h
  obtain ⟨tML, gML⟩ := T.gML
  obtain ⟨tSL, gSL⟩ := T.gSL
  refine ⟨_, PSs.nox (pss_cons (ps_if (PW.pt (pw_or (pt_not (pt_val (pe_callB call_isi (by rfl) T.mi (by decide +kernel) (pa_cons (pv 0) (pa_cons (pe_bltn (v := V.ty "str") (by rfl) T.mstr (by decide +kernel) rfl) pa_nil))))) (pw_or1 (pt_not (pt_chain op_le op_le pe_int (pe_callB call_len_str (by rfl) T.ml PySem.boot_len (pa_cons (pv 0) pa_nil)) (pe_glob (v := V.int 8) (by rfl) gML ⟨_, rfl⟩))))))
 (pss_one (ps_ret pe_bl)) pss_nil)
 (pss_one (ps_ret (pe_and (pe_cmpR op_notIn_seq (pv 0) (pe_glob (v := V.ref aB) (by rfl) T.gB rfl) rfl) (pe_one (pe_callB (cr_all rfl) (by rfl) T.ma (by decide +kernel) (pa_cons (pe_lc (own := [("sign", 1)]) (g := gName 1) (tt := tYes) (by rfl) scWord.nd (pi_str (pv 0)) (blkOk_by (own := [("sign", 1)]) (N := ["thing", "sign"]) (sc := defScope sWord) (by decide +kernel)) (fun _ _ _ _ _ => pg_name (i := 1) scWord.nd rfl (Or.inl rfl)) (fun _ _ _ _ _ => pts_nil) (fun _ _ _ _ _ => (pe_cmpR op_in_sign (pv 1) (pe_glob (v := V.str abc) (by rfl) gSL ⟨_, rfl⟩) rfl))) pa_nil))))))), ?_⟩
  refine is_str rfl hd _ ⟨_, rfl, ?_⟩
  cases hs : isStr d with
  | false =>
    refine iteT ?_
    have e : wordD d = false := by cases d <;> first | rfl | cases hs
    rw [e] at q
    exact q H (Same.refl _)
  | true =>
    obtain ⟨x, rfl⟩ : ∃ x, d = .str x := by cases d <;> first | exact ⟨_, rfl⟩ | cases hs
    cases hd
    have hx : x.length ≤ 1000 := hf
    refine iteF ?_
    have ew : wordD (.str x) = (decide ((1 : Int) ≤ (x.length : Int)) && (decide ((x.length : Int) ≤ 8) && (!inV (.str x) (barred.map V.str) && (x.cps.toList.map fun c => decide (c ∈ abc.cps.toList)).all id))) := rfl
    refine ⟨_, rfl, x, rfl, small hx, _, _, rfl, rfl, _, rfl, ?_⟩
    cases e1 : decide ((1 : Int) ≤ (x.length : Int)) with
    | false =>
      refine iteF ?_
      refine ⟨_, rfl, ?_⟩
      refine iteT ?_
      rw [ew, e1] at q
      exact q H (Same.refl _)
    | true =>
      refine iteT ?_
      refine ⟨_, _, rfl, rfl, _, rfl, ?_⟩
      cases e2 : decide ((x.length : Int) ≤ 8) with
      | false =>
        refine iteT ?_
        rw [ew, e1, e2] at q
        exact q H (Same.refl _)
      | true =>
        refine iteF ?_
        refine ⟨_, rfl, aB, _, rfl, .inr (T.bB _), rfl, flat_strs barred, _, rfl, ?_⟩
        cases e3 : inV (.str x) (barred.map V.str) with
        | true =>
          refine iteF ?_
          rw [ew, e1, e2, e3] at q
          exact q H (Same.refl _)
        | false =>
          refine iteT ?_
          refine ⟨_, rfl, x, rfl, fun D nD => lc_it walk_str (fun j H' => H' D = some (.lst (((x.cps.toList.take j).map fun c => decide (c ∈ abc.cps.toList)).map V.bl)) ∧ Same H H') ?_ (fun _ _ _ _ => trivial) ?_ ?_⟩
          · exact ⟨upd_same, same_new nD _⟩
          · rintro j v H1 H2 hj ⟨eD, s1⟩ ⟨rfl, c, hc, rfl⟩
            have hj' : j < x.length := hj
            refine ⟨rfl, ?_⟩
            refine ⟨_, rfl, c, abc, rfl, rfl, _, eD, ?_, ?_, ?_⟩
            · rw [List.length_map, List.length_map, List.length_take]
              exact small1000 (by omega)
            · have hc' : x.cps.toList[j]? = some c := by rw [Array.getElem?_toList]; exact hc
              rw [upd_same, List.take_add_one, hc', List.map_append, List.map_append]
              rfl
            · intro b o h
              rw [upd_ne (ne_of_none h nD)]
              exact s1 _ _ h
          · rintro H1 ⟨eD, s1⟩
            have et : x.cps.toList.take x.cps.size = x.cps.toList := List.take_of_length_le (by rw [Array.length_toList]; exact Nat.le_refl _)
            rw [et] at eD
            refine ⟨D, _, rfl, SqL.of eD, ?_⟩
            rw [ew, e1, e2, e3] at q
            exact q H1 s1
theorem ok_parts {k : Nat} (F : FnP K "parts_of" sParts f fd) : FnOk P w K mg base CX0 (k + 1) f fd ["saying"] (spParts K) := by
  refine F.ok scParts (fun vs H Q E h => ?_) (fun cdv A outer s H vs Q E hr h => ?_)
  · obtain ⟨a, x, xs, rfl, _⟩ := h
    rfl
  obtain ⟨a, x, xs, rfl, ha, hl, q⟩ := h
  refine ⟨_, PSs.nox (pss_cons (ps_if (pt_cmpR op_eq (pe_ix ix_tup (pv 0) pe_int (fun _ _ => rfl)) pe_str (nomark _))
 (pss_one (ps_ret (pe_tup pa_nil))) pss_nil)
 (pss_one (ps_ret (pe_slice sl_tupA (pv 0) (po_some pe_int) po_none)))), ?_⟩
  refine ⟨_, rfl, a, _, _, _, rfl, rfl, ha, at0, rfl, _, rfl, ?_⟩
  refine ite2 (fun c => ?_) (fun c => ?_)
  · have ex : x = "name" := V.str.inj (of_decide_eq_true c)
    refine ⟨Nat.zero_le _, fun p np => q _ p (same_new np _) ?_⟩
    rw [if_pos ex]
    exact .inl (.inl upd_same)
  · have ex : ¬ x = "name" := fun z => c (decide_eq_true (by rw [z]))
    refine ⟨_, rfl, 1, rfl, a, _, rfl, ha, fun z => ?_, fun _ p np => q _ p (same_new np _) ?_⟩
    · have z1 := z.1
      rw [show HT.sIx (V.str x :: xs).length 0 (some 1) = min 1 (V.str x :: xs).length from HT.sIx_nat _ _ 1, List.length_cons] at z1
      omega
    · rw [if_neg ex]
      have e : cutV (V.str x :: xs) (some 1) none = xs := by
        unfold cutV
        rw [show HT.sIx (V.str x :: xs).length 0 (some 1) = min 1 (V.str x :: xs).length from HT.sIx_nat _ _ 1, HT.sIx_none, List.length_cons]
        have e1 : min 1 (xs.length + 1) = 1 := by omega
        rw [e1]
        show List.take (xs.length + 1 - 1) xs = xs
        rw [Nat.add_sub_cancel]
        exact List.take_length
      rw [e]
      exact .inl (.inl upd_same)
theorem ok_form {k : Nat} (F : FnP K "_has_form" sForm f fd) (GW : FnOk P w K mg base CX0 (k + 1) fW dW ["thing"] (spWord K)) (T : Txt K w mg aB aL fW dW es n) : FnOk P w K mg base CX0 (k + 2) f fd ["thing"] (spForm K) := by
  refine F.ok scForm (fun vs H Q E h => ?_) (fun cdv A outer s H vs Q E hr h => ?_)
  · obtain ⟨v, d, rfl, _⟩ := h
    rfl
  obtain ⟨v, d, rfl, hd, hf, q⟩ := h
  refine ⟨_, PSs.nox (pss_cons (ps_if (PW.pt (pw_or (pt_not (pt_val (pe_callB call_isi (by rfl) T.mi (by decide +kernel) (pa_cons (pv 0) (pa_cons (pe_bltn (v := V.ty "tuple") (by rfl) T.mtuple (by decide +kernel) rfl) pa_nil))))) (pw_or (pt_not (pt_truth (pv 0) (by intro _; rfl))) (pw_or1 (pt_not (pt_val (pe_callB call_isi (by rfl) T.mi (by decide +kernel) (pa_cons (pe_ix ix_tup (pv 0) pe_int (fun _ _ => rfl)) (pa_cons (pe_bltn (v := V.ty "str") (by rfl) T.mstr (by decide +kernel) rfl) pa_nil)))))))))
 (pss_one (ps_ret pe_bl)) pss_nil)
 (pss_cons (ps_if (pt_cmpR op_ne (pe_callB call_len_seq (by rfl) T.ml PySem.boot_len (pa_cons (pv 0) pa_nil)) (pe_kget1 T.D (pe_glob (v := V.ref aL) (by rfl) T.gLE rfl) (pe_ix ix_tup (pv 0) pe_int (fun _ _ => rfl)) ⟨by rfl, by rfl, by rfl, by rfl⟩) (nomark _))
 (pss_one (ps_ret pe_bl)) pss_nil)
 (pss_one (ps_ret (pe_or (pe_cmpR op_ne (pe_ix ix_tup (pv 0) pe_int (fun _ _ => rfl)) pe_str (nomark _)) (pe_one (pe_call GW hr (by rfl) T.gW T.kW T.bW .nil pass0 (pa_cons (pe_ix ix_tup (pv 0) pe_int (fun _ _ => rfl)) pa_nil)))))))), ?_⟩
  refine is_tup rfl hd _ ⟨_, rfl, ?_⟩
  cases hs : isTup d with
  | false =>
    refine iteT ?_
    have e : formD d = false := by cases d <;> first | rfl | cases hs
    rw [e] at q
    exact q H (Same.refl _)
  | true =>
    obtain ⟨ds, rfl⟩ : ∃ ds, d = .tuple ds := by cases d <;> first | exact ⟨_, rfl⟩ | cases hs
    obtain ⟨hf1, hf2⟩ := hf ds rfl
    cases hd with
    | @tup a xs ds ha hall =>
    refine iteF ?_
    refine ⟨_, rfl, !xs.isEmpty, .inr (.inl ⟨xs, ha, rfl⟩), ?_⟩
    cases hall with
    | nil =>
      refine iteT ?_
      exact q H (Same.refl _)
    | @cons v0 vs d0 ds h0 hall =>
      refine iteF ?_
      refine ⟨_, rfl, a, _, _, _, rfl, rfl, ha, at0, v0, .ty "str", _, _, _, rfl, .ty _, dp_ty h0, kit_ty (kit_str d0), _, rfl, ?_⟩
      cases hs0 : isStr d0 with
      | false =>
        refine iteT ?_
        have e : formD (.tuple (d0 :: ds)) = false := by cases d0 <;> first | rfl | cases hs0
        rw [e] at q
        exact q H (Same.refl _)
      | true =>
        obtain ⟨x, rfl⟩ : ∃ x, d0 = .str x := by cases d0 <;> first | exact ⟨_, rfl⟩ | cases hs0
        cases h0
        refine iteF ?_
        obtain ⟨r, hr1, hr2⟩ := T.at_ x
        have hl : (V.str x :: vs).length = ds.length + 1 := by
          rw [List.length_cons, dp_len hall]
        refine ⟨_, rfl, a, _, rfl, .inr ha, rfl, _, rfl, a, _, _, _, rfl, rfl, ha, at0, x, r, _, rfl, hr1, hr2, ?_⟩
        refine ⟨scal_lens _ x, _, rfl, ?_⟩
        have ef : formD (.tuple (.str x :: ds)) = (decide (lens x = some ((ds.length : Int) + 1)) && (decide (x ≠ "name") || headWord ds)) := rfl
        have el : (!decide (V.int (((V.str x :: vs).length : Nat) : Int) = lensV x)) = !decide (lens x = some ((ds.length : Int) + 1)) := by
          rw [hl]
          unfold lensV
          cases lens x with
          | none => simp
          | some m =>
            by_cases h : m = (ds.length : Int) + 1
            · subst h
              rw [decide_eq_true rfl]
              exact congrArg (!·) (decide_eq_true (congrArg V.int (by omega)))
            · rw [decide_eq_false (fun z => h (Option.some.inj z))]
              exact congrArg (!·) (decide_eq_false (fun z => h (by have := V.int.inj z; omega)))
        rw [el]
        cases e1 : decide (lens x = some ((ds.length : Int) + 1)) with
        | false =>
          refine iteT ?_
          rw [ef, e1] at q
          exact q H (Same.refl _)
        | true =>
          refine iteF ?_
          refine ⟨_, rfl, a, _, _, _, rfl, rfl, ha, at0, rfl, _, rfl, ?_⟩
          by_cases c : x = "name"
          · have e2 : (!decide (V.str x = V.str "name")) = false := by rw [decide_eq_true (by rw [c])]; rfl
            rw [e2]
            refine iteF ?_
            have l2 : lens "name" = some 2 := by decide +kernel
            have e3 := of_decide_eq_true e1
            rw [c, l2] at e3
            have e4 : ds.length = 1 := by
              have := Option.some.inj e3
              omega
            cases hall with
            | nil => cases e4
            | @cons v1 vs d1 ds h1 hall =>
              refine ⟨_, rfl, a, _, _, _, rfl, rfl, ha, at1, v1, d1, rfl, h1, hf2 d1 (List.mem_cons_of_mem _ List.mem_cons_self), fun H' s1 => ?_⟩
              have e5 : formD (.tuple (.str x :: d1 :: ds)) = wordD d1 := by
                rw [ef, e1, decide_eq_false (fun z => z c)]
                rfl
              rw [e5] at q
              exact q H' s1
          · have e2 : (!decide (V.str x = V.str "name")) = true := by rw [decide_eq_false (fun z => c (V.str.inj z))]; rfl
            rw [e2]
            refine iteT ?_
            rw [ef, e1, decide_eq_true c] at q
            exact q H (Same.refl _)
end
end My

set_option maxRecDepth 100000
set_option maxHeartbeats 4000000
namespace My
open PySem PySem.Spec PyProof.Rows L2
abbrev sSaying : Stmt := top 11
theorem scSaying : FnScope ["thing", "waiting", "count", "part", "within", "inner"] ["thing"] (defScope sSaying) := ⟨rfl, rfl, rfl, by decide +kernel, rfl, by decide +kernel, by decide +kernel⟩
/-! ### parts, counted -/
def kidsD : PyData → List PyData
  | .tuple (.str x :: r) => if x = "name" then [] else r
  | _ => []
/-- how many parts, with k levels left; 1000 and more where it is no saying -/
def cnt : Nat → PyData → Nat
  | 0, _ => 1000
  | k + 1, d => if formD d = true then 1 + ((kidsD d).map (cnt k)).sum else 1000
theorem cnt_pos : ∀ k d, 1 ≤ cnt k d
  | 0, _ => by unfold cnt; decide
  | k + 1, d => by
    unfold cnt
    split <;> omega
theorem lens_le (x : Str) (m : Int) (h : lens x = some m) : 1 ≤ m ∧ m ≤ 3 := by
  unfold lens at h
  repeat' split at h
  all_goals first | (cases h; constructor <;> decide) | cases h
theorem kids_few {d : PyData} (h : formD d = true) : (kidsD d).length ≤ 2 := by
  unfold kidsD
  split
  · rename_i x r
    split
    · exact Nat.zero_le _
    · have e : formD (.tuple (.str x :: r)) = (decide (lens x = some ((r.length : Int) + 1)) && (decide (x ≠ "name") || headWord r)) := rfl
      rw [e, Bool.and_eq_true] at h
      have h1 := lens_le x _ (of_decide_eq_true h.1)
      omega
  · exact Nat.zero_le _
/-- small throughout: tuples and lists at most w long, texts short, n levels -/
def Fits (w : Nat) : Nat → PyData → Prop
  | _, .none => True
  | _, .bool _ => True
  | _, .int _ => True
  | _, .str x => x.length ≤ 1000
  | _, .dict _ => False
  | 0, .tuple _ => False
  | 0, .list _ => False
  | n + 1, .tuple ds => ds.length ≤ w ∧ ∀ c ∈ ds, Fits w n c
  | n + 1, .list ds => ds.length ≤ w ∧ ∀ c ∈ ds, Fits w n c
theorem fits_few {w n : Nat} {d : PyData} (h : Fits w n d) : few d := by
  cases d with
  | str x => cases n <;> exact h
  | _ => trivial
theorem fits_tup {w n : Nat} {ds : List PyData} (h : Fits w n (.tuple ds)) : ds.length ≤ w ∧ ∀ c ∈ ds, ∃ m, n = m + 1 ∧ Fits w m c := by
  cases n with
  | zero => exact h.elim
  | succ m => exact ⟨h.1, fun c hc => ⟨m, rfl, h.2 c hc⟩⟩
def Ok (d : PyData) : Prop := ∃ n, Fits 9 n d
theorem ok_kids {d : PyData} (h : Ok d) : ∀ c ∈ kidsD d, Ok c := by
  obtain ⟨n, h⟩ := h
  intro c hc
  unfold kidsD at hc
  split at hc
  · rename_i x r
    split at hc
    · cases hc
    · obtain ⟨m, rfl, hm⟩ := (fits_tup h).2 c (List.mem_cons_of_mem _ hc)
      exact ⟨m, hm⟩
  · cases hc
theorem ok_form_of {d : PyData} (h : Ok d) : ∀ ds, d = .tuple ds → ds.length ≤ 1000 ∧ ∀ c ∈ ds, few c := fun ds e => by
  obtain ⟨n, h⟩ := h
  subst e
  refine ⟨Nat.le_trans (fits_tup h).1 (by decide), fun c hc => ?_⟩
  obtain ⟨m, _, hm⟩ := (fits_tup h).2 c hc
  exact fits_few hm
/-! ### the same things in a later heap -/
theorem same_tup {K : PySem.W.Frag} {H H' : Hp} {a : Addr} {xs : List V} (e : Same H H') (h : SqT K H a xs) : SqT K H' a xs := by
  rcases h with (h | ⟨o, h⟩) | h
  · exact .inl (.inl (e _ _ h))
  · exact .inl (.inr ⟨o, e _ _ h⟩)
  · exact .inr h
mutual
theorem dp_same {K : PySem.W.Frag} {H H' : Hp} (e : Same H H') : ∀ {v : V} {d : PyData}, Dp K H v d → Dp K H' v d
  | _, _, .non => .non
  | _, _, .bl b => .bl b
  | _, _, .int i => .int i
  | _, _, .str x => .str x
  | _, _, .lst h hs => .lst (e.seq h) (dp_sameAll e hs)
  | _, _, .tup h hs => .tup (same_tup e h) (dp_sameAll e hs)
theorem dp_sameAll {K : PySem.W.Frag} {H H' : Hp} (e : Same H H') : ∀ {vs : List V} {ds : List PyData}, DpAll K H vs ds → DpAll K H' vs ds
  | _, _, .nil => .nil
  | _, _, .cons h hs => .cons (dp_same e h) (dp_sameAll e hs)
end
/-! ### the stack -/
/-- at wv a pair of a thing and how deep it stands, k levels left -/
def Ent (K : PySem.W.Frag) (H0 H : Hp) (wv : V) (p : PyData × Nat) : Prop := ∃ (t : Addr) (v : V), wv = .ref t ∧ H t = some (.tup [v, .int (26 - (p.2 : Int))]) ∧ Dp K H0 v p.1 ∧ Ok p.1 ∧ p.2 ≤ 25
def TupK (H H' : Hp) : Prop := ∀ b xs, H b = some (.tup xs) → H' b = some (.tup xs)
theorem TupK.of {H H' : Hp} (s : Same H H') : TupK H H' := fun b xs h => s b _ h
theorem TupK.trans {H H1 H2 : Hp} (a : TupK H H1) (b : TupK H1 H2) : TupK H H2 := fun c xs h => b c xs (a c xs h)
theorem TupK.put {H : Hp} {p : Addr} {xs : List V} {o : HO} (h : H p = some (.lst xs)) : TupK H (upd H p o) := fun b ys e => by
  rw [upd_ne (fun z => by rw [z, h] at e; cases e)]
  exact e
theorem ent_keep {K : PySem.W.Frag} {H0 H H' : Hp} {wv : V} {p : PyData × Nat} (s : TupK H H') (h : Ent K H0 H wv p) : Ent K H0 H' wv p := by
  obtain ⟨t, v, e, h1, h3⟩ := h
  exact ⟨t, v, e, s _ _ h1, h3⟩
theorem dp_get {K : PySem.W.Frag} {H : Hp} : ∀ {vs : List V} {ds : List PyData}, DpAll K H vs ds → ∀ {j : Nat} {v : V}, vs[j]? = some v → ∃ d, ds[j]? = some d ∧ Dp K H v d
  | _, _, .nil, j, v, h => by simp at h
  | _, _, .cons x r, 0, v, h => by
    cases Option.some.inj h
    exact ⟨_, rfl, x⟩
  | _, _, .cons x r, j + 1, v, h => dp_get r h
theorem paired_imp {α β : Type} {F G : α → β → Prop} (h : ∀ a b, F a b → G a b) : ∀ {l : List α} {m : List β}, Paired F l m → Paired G l m
  | _, _, .nil => .nil
  | _, _, .cons x r => .cons (h _ _ x) (paired_imp h r)
theorem paired_last {α β : Type} {F : α → β → Prop} : ∀ {m : List β} {b : β} {l : List α}, Paired F l (m ++ [b]) → ∃ l0 a, l = l0 ++ [a] ∧ Paired F l0 m ∧ F a b
  | [], b, _, h => by
    cases h with
    | cons x r =>
      cases r
      exact ⟨[], _, rfl, .nil, x⟩
  | c :: m, b, _, h => by
    cases h with
    | cons x r =>
      obtain ⟨l0, a, e, p, q⟩ := paired_last r
      exact ⟨_ :: l0, a, by rw [e]; rfl, .cons x p, q⟩
theorem paired_app {α β : Type} {F : α → β → Prop} : ∀ {l : List α} {m : List β} {l2 : List α} {m2 : List β}, Paired F l m → Paired F l2 m2 → Paired F (l ++ l2) (m ++ m2)
  | _, _, _, _, .nil, h => h
  | _, _, _, _, .cons x r, h => .cons x (paired_app r h)
theorem paired_len {α β : Type} {F : α → β → Prop} : ∀ {l : List α} {m : List β}, Paired F l m → l.length = m.length
  | _, _, .nil => rfl
  | _, _, .cons _ r => congrArg Nat.succ (paired_len r)
def tot (S : List (PyData × Nat)) : Nat := (S.map fun p => cnt p.2 p.1).sum
theorem tot_app (S S' : List (PyData × Nat)) : tot (S ++ S') = tot S + tot S' := by unfold tot; rw [List.map_append, List.sum_append]
theorem tot_kids (d : PyData) (k : Nat) : tot ((kidsD d).map fun c => (c, k)) = ((kidsD d).map (cnt k)).sum := by
  unfold tot
  rw [List.map_map]
  rfl
structure Use (mg : Str → Option Value) (K : PySem.W.Frag) (fF fP : Addr) (dF dP : FuncData) : Prop where
  gMP : ∃ t, mg "MOST_PARTS" = some (.int 400 t)
  gMW : ∃ t, mg "MOST_WITHIN" = some (.int 25 t)
  gF : mg "_has_form" = some (.ref fF)
  kF : PySem.W.keepIn K (.ref fF) = true
  bF : Binds K dF ["thing"] []
  gP : mg "parts_of" = some (.ref fP)
  kP : PySem.W.keepIn K (.ref fP) = true
  bP : Binds K dP ["saying"] []
def spSaying (K : PySem.W.Frag) : Sp := fun vs H Q _ => ∃ (v : V) (d : PyData), vs = [v] ∧ Dp K H v d ∧ Ok d ∧ ∀ H', Same H H' → Q (.bl (decide (cnt 25 d ≤ 400))) H'
section
variable {P : Program} {w : World} {K : PySem.W.Frag} {mg : Str → Option Value} {base : Heap} {f fF fP : Addr} {fd dF dP : FuncData}
theorem ok_is_saying {k : Nat} (F : FnP K "is_saying" sSaying f fd) (GF : FnOk P w K mg base CX0 2 fF dF ["thing"] (spForm K)) (GP : FnOk P w K mg base CX0 1 fP dP ["saying"] (spParts K)) (U : Use mg K fF fP dF dP) : FnOk P w K mg base CX0 3 f fd ["thing"] (spSaying K) := by
  refine F.ok scSaying (fun vs H Q E h => ?_) (fun cdv A outer s H vs Q E hr2 h => ?_)
  · obtain ⟨v, d, rfl, _⟩ := h
    rfl
  obtain ⟨v, d, rfl, hd, ho, q⟩ := h
  have hr1 : Room 1 _ := hr2.mono (by decide)
  obtain ⟨tMP, gMP⟩ := U.gMP
  obtain ⟨tMW, gMW⟩ := U.gMW
  refine ⟨_, PSs.nox (pss_cons (ps_set (i := 1) scSaying.nd rfl (Or.inl rfl) (pe_lst (pa_cons (pe_tup (pa_cons (pv 0) (pa_cons pe_int pa_nil))) pa_nil)))
 (pss_cons (ps_set (i := 2) scSaying.nd rfl (Or.inl rfl) pe_int)
 (pss_cons (ps_while PassesOwn.never (pt_truth (pv 1) (by intro _; rfl))
 (pss_cons (ps_asg (pe_bm0 PySem.F.plainAttrs_list PySem.F.slot_list_pop PySem.F.type_list_pop mt_pop (pv 1)) (pg_tup (by rfl) (pgs_cons (pg_name (i := 3) scSaying.nd rfl (Or.inl rfl)) (pgs_cons (pg_name (i := 4) scSaying.nd rfl (Or.inr rfl)) pgs_nil))))
 (pss_cons (ps_aug (i := 2) scSaying.nd rfl (Or.inl rfl) pe_int ip_add)
 (pss_cons (ps_if (PW.pt (pw_or (pt_cmpR op_gt (pv 2) (pe_glob (v := V.int 400) (by rfl) gMP ⟨_, rfl⟩) (nomark _)) (pw_or (pt_cmpR op_gt (pv 4) (pe_glob (v := V.int 25) (by rfl) gMW ⟨_, rfl⟩) (nomark _)) (pw_or1 (pt_not (pt_val (pe_call GF hr2 (by rfl) U.gF U.kF U.bF .nil pass0 (pa_cons (pv 3) pa_nil))))))))
 (pss_one (ps_ret pe_bl)) pss_nil)
 (pss_one (ps_expr (pe_bm PySem.F.plainAttrs_list PySem.F.slot_list_extend PySem.F.type_list_extend mt_extend (pv 1) (pa_cons (pe_lc (own := [("inner", 5)]) (g := gName 5) (tt := tYes) (by rfl) scSaying.nd (pi_tup (pe_call GP hr1 (by rfl) U.gP U.kP U.bP .nil pass0 (pa_cons (pv 3) pa_nil))) (blkOk_by (own := [("inner", 5)]) (N := ["thing", "waiting", "count", "part", "within", "inner"]) (sc := defScope sSaying) (by decide +kernel)) (fun _ _ _ _ _ => pg_name (i := 5) scSaying.nd rfl (Or.inl rfl)) (fun _ _ _ _ _ => pts_nil) (fun _ _ _ _ _ => (pe_tup (pa_cons (pv 5) (pa_cons (pe_op op_add (pv 4) pe_int) pa_nil))))) pa_nil))))))))
 (pss_one (ps_ret pe_bl))))), ?_⟩
  refine ⟨_, rfl, (by show 2 ≤ sizeLine; decide), fun t nt => ⟨(by show 1 ≤ sizeLine; decide), fun p np => ?_⟩⟩
  have s1 := same_new nt (.tup [v, .int 1])
  have s2 := same_new np (.lst [.ref t])
  have np0 : H p = none := s1.free np
  refine ⟨fun m σ H' => ∃ (S : List (PyData × Nat)) (ws : List V) (c : Nat) (pt wi : Option V), m = 400 - c ∧ σ = [some v, some (.ref p), some (.int (c : Nat)), pt, wi, none] ∧ H' p = some (.lst ws) ∧ Paired (Ent K H H') ws S ∧ Same H H' ∧ c ≤ 400 ∧ c + tot S = cnt 25 d ∧ S.length ≤ 2 * c + 1,
    ⟨_, [(d, 25)], [.ref t], 0, none, none, rfl, rfl, upd_same, .cons ⟨t, v, rfl, s2 _ _ upd_same, hd, ho, Nat.le_refl _⟩ .nil, s1.trans s2, by decide, ?_, Nat.le_refl _⟩, ?_⟩
  · unfold tot
    show 0 + (cnt 25 d + 0) = cnt 25 d
    omega
  rintro m σ H1 ⟨S, ws, c, pt, wi, rfl, rfl, eP, hP, sm, hc, hN, hS⟩
  refine ⟨_, rfl, !ws.isEmpty, .inl ⟨ws, SqL.of eP, rfl⟩, ?_⟩
  rcases List.eq_nil_or_concat S with rfl | ⟨S0, e, rfl⟩
  · -- nothing waits
    cases hP
    refine iteF ?_
    have e : decide (cnt 25 d ≤ 400) = true := decide_eq_true (by
      have : tot [] = 0 := rfl
      omega)
    rw [e] at q
    exact q H1 sm
  rw [List.concat_eq_append] at hP hN hS
  obtain ⟨ws0, wv, rfl, hP0, t, v1, rfl, ht, hd1, ho1, hk⟩ := paired_last hP
  obtain ⟨d1, k1⟩ := e
  have te : (!(ws0 ++ [V.ref t]).isEmpty) = true := by simp
  rw [te]
  refine iteT ?_
  refine ⟨fun σ' H' => ∃ m', m' < 400 - c ∧ ∃ (S : List (PyData × Nat)) (ws : List V) (c : Nat) (pt wi : Option V), m' = 400 - c ∧ σ' = [some v, some (.ref p), some (.int (c : Nat)), pt, wi, none] ∧ H' p = some (.lst ws) ∧ Paired (Ent K H H') ws S ∧ Same H H' ∧ c ≤ 400 ∧ c + tot S = cnt 25 d ∧ S.length ≤ 2 * c + 1, fun σ' H' z => z, ?_⟩
  -- the last one is taken
  have hlast : (ws0 ++ [V.ref t])[(ws0 ++ [V.ref t]).length - 1]? = some (.ref t) := by simp
  refine ⟨_, rfl, .inl ⟨rfl, _, SqL.of eP⟩, p, _, _, rfl, rfl, eP, hlast, ?_⟩
  have edl : (ws0 ++ [V.ref t]).dropLast = ws0 := by simp
  rw [edl]
  have k2 : ∀ b o, H1 b = some o → b ≠ p → (upd H1 p (.lst ws0)) b = some o := fun b o h n => by rw [upd_ne n]; exact h
  have sm2 : Same H (upd H1 p (.lst ws0)) := fun b o h => k2 b o (sm _ _ h) (ne_of_none h np0)
  have tk2 : TupK H1 (upd H1 p (.lst ws0)) := TupK.put eP
  have eP2 : (upd H1 p (.lst ws0)) p = some (.lst ws0) := upd_same
  have hP2 := paired_imp (fun _ _ h => ent_keep tk2 h) hP0
  have ht2 := tk2 _ _ ht
  generalize upd H1 p (.lst ws0) = H2 at sm2 tk2 eP2 hP2 ht2 ⊢
  rw [tot_app] at hN
  have hN1 : tot [(d1, k1)] = cnt k1 d1 := by
    unfold tot
    show cnt k1 d1 + 0 = cnt k1 d1
    omega
  rw [hN1] at hN
  rw [List.length_append] at hS
  have hS1 : [(d1, k1)].length = 1 := rfl
  rw [hS1] at hS
  have hpos := cnt_pos k1 d1
  refine ⟨t, _, rfl, .inl (.inl ht2), rfl, v1, _, rfl, _, [], rfl, rfl, ?_⟩
  refine ⟨_, rfl, _, _, rfl, rfl, ?_⟩
  -- the three tests
  refine ⟨_, rfl, _, _, rfl, rfl, _, rfl, ite2 (fun c1 => ?_) (fun c1 => ?_)⟩
  · refine iteT ?_
    have c2 : (400 : Int) < (c : Int) + 1 := of_decide_eq_true c1
    rw [decide_eq_false (by omega)] at q
    exact q H2 sm2
  have c2 : ¬ (400 : Int) < (c : Int) + 1 := of_decide_eq_false (Bool.eq_false_iff.mpr c1)
  have hk1 : k1 ≤ 25 := hk
  refine ⟨_, rfl, _, _, rfl, rfl, _, rfl, ite2 (fun c3 => ?_) (fun c3 => ?_)⟩
  · refine iteT ?_
    have c4 : (25 : Int) < 26 - (k1 : Int) := of_decide_eq_true c3
    have k0 : k1 = 0 := by omega
    have e0 : cnt k1 d1 = 1000 := by rw [k0]; rfl
    rw [decide_eq_false (by omega)] at q
    exact q H2 sm2
  have c4 : ¬ (25 : Int) < 26 - (k1 : Int) := of_decide_eq_false (Bool.eq_false_iff.mpr c3)
  obtain ⟨j, rfl⟩ : ∃ j, k1 = j + 1 := ⟨k1 - 1, by omega⟩
  have ec : cnt (j + 1) d1 = if formD d1 = true then 1 + ((kidsD d1).map (cnt j)).sum else 1000 := rfl
  refine ⟨_, rfl, v1, d1, rfl, dp_same sm2 hd1, ok_form_of ho1, fun H3 s3 => ?_⟩
  refine ⟨_, rfl, ?_⟩
  cases hform : formD d1 with
  | false =>
    refine iteT ?_
    rw [ec, hform, if_neg (by decide)] at hN
    rw [decide_eq_false (by omega)] at q
    exact q H3 (sm2.trans s3)
  | true =>
    refine iteF ?_
    rw [ec, hform, if_pos rfl] at hN
    have hkf := kids_few hform
    obtain ⟨x, r, rfl⟩ : ∃ x r, d1 = .tuple (.str x :: r) := by
      unfold formD at hform
      split at hform
      · exact ⟨_, _, rfl⟩
      · cases hform
    have hok := ok_kids ho1
    cases hd1 with
    | @tup a1 xs1 _ ha1 hall1 =>
    cases hall1 with
    | @cons vx vs1 _ _ hx hall =>
    cases hx
    have hlv := dp_len hall
    have hr : r.length ≤ 1000 := by
      have := (ok_form_of ho1 _ rfl).1
      rw [List.length_cons] at this
      omega
    have eP3 := s3 _ _ eP2
    refine ⟨_, rfl, .inl ⟨rfl, _, SqL.of eP3⟩, ?_⟩
    refine ⟨_, rfl, a1, x, vs1, rfl, same_tup (sm2.trans s3) ha1, by omega, fun H4 pp s4 e4 => ?_⟩
    have eP4 := s4 _ _ eP3
    have hall4 : DpAll K H (if x = "name" then [] else vs1) (kidsD (.tuple (.str x :: r))) := by
      show DpAll K H (if x = "name" then [] else vs1) (if x = "name" then [] else r)
      split
      · exact .nil
      · exact hall
    have hlk := dp_len hall4
    generalize (if x = "name" then [] else vs1) = ys at e4 hall4 hlk
    generalize kidsD (.tuple (.str x :: r)) = kd at hkf hok hN hall4 hlk
    refine ⟨pp, rfl, ⟨_, e4⟩, fun D nD => lc_tup (K := K) (a := pp) (xs := ys) (fun i H' => ∃ acc, H' D = some (.lst acc) ∧ acc.length = i ∧ Paired (Ent K H H') acc ((kd.take i).map fun c => (c, j)) ∧ Same H4 H') ?_ ?_ ?_ ?_⟩
    · exact ⟨[], upd_same, rfl, .nil, same_new nD _⟩
    · rintro i H' _ ⟨acc, _, _, _, s5⟩
      exact same_tup s5 e4
    · rintro i y H5 hi ⟨acc, eD, hlen, hacc, s5⟩
      have hil : i < ys.length := (List.getElem?_eq_some_iff.mp hi).1
      obtain ⟨dc, hdc, hDc⟩ := dp_get hall4 hi
      refine ⟨rfl, ?_⟩
      refine ⟨_, rfl, _, rfl, _, _, rfl, rfl, (by show 2 ≤ sizeLine; decide), fun tp ntp => ?_⟩
      have s6 := same_new ntp (.tup [y, .int (26 - ((j + 1 : Nat) : Int) + 1)])
      have eD6 := s6 _ _ eD
      have tpD : tp ≠ D := fun z => by rw [z, eD] at ntp; cases ntp
      refine ⟨acc, eD6, small1000 (by omega), acc ++ [.ref tp], upd_same, by rw [List.length_append, hlen]; rfl, ?_, ?_⟩
      · rw [List.take_add_one, hdc, List.map_append]
        refine paired_app (paired_imp (fun _ _ h => ent_keep ((TupK.of s6).trans (TupK.put eD6)) h) hacc) (.cons ⟨tp, y, rfl, ?_, hDc, hok _ (List.mem_of_getElem? hdc), by show j ≤ 25; omega⟩ .nil)
        rw [upd_ne tpD, upd_same]
        have e26 : (26 : Int) - ((j + 1 : Nat) : Int) + 1 = 26 - (j : Int) := by omega
        show some (HO.tup [y, V.int (26 - ((j + 1 : Nat) : Int) + 1)]) = some (HO.tup [y, V.int (26 - (j : Int))])
        rw [e26]
      · intro b o h
        rw [upd_ne (ne_of_none h nD)]
        exact s6 _ _ (s5 _ _ h)
    · rintro H5 ⟨acc, eD, hlen, hacc, s5⟩
      have eP5 := s5 _ _ eP4
      have hl0 : ws0.length = S0.length := paired_len hP2
      have ek : kd.take ys.length = kd := by rw [hlk]; exact List.take_length
      rw [ek] at hacc
      refine ⟨p, D, _, _, rfl, rfl, eP5, eD, small (by omega), ?_⟩
      refine ⟨400 - (c + 1), by omega, S0 ++ kd.map (fun c => (c, j)), ws0 ++ acc, c + 1, _, _, rfl, rfl, upd_same, ?_, ?_, by omega, ?_, ?_⟩
      · have tk5 : TupK H2 (upd H5 p (.lst (ws0 ++ acc))) := (((TupK.of s3).trans (TupK.of s4)).trans (TupK.of s5)).trans (TupK.put eP5)
        exact paired_app (paired_imp (fun _ _ h => ent_keep tk5 h) hP2) (paired_imp (fun _ _ h => ent_keep (TupK.put eP5) h) hacc)
      · intro b o h
        rw [upd_ne (ne_of_none h np0)]
        exact s5 _ _ (s4 _ _ (s3 _ _ (sm2 _ _ h)))
      · rw [tot_app]
        have e7 : tot (kd.map fun c => (c, j)) = (kd.map (cnt j)).sum := by
          unfold tot
          rw [List.map_map]
          rfl
        rw [e7]
        omega
      · rw [List.length_append, List.length_map]
        omega
end
end My

set_option maxRecDepth 100000
set_option maxHeartbeats 4000000
namespace L2
open PySem PySem.Spec PyProof.Rows
/-- t == (), t a tuple -/
def rEqNil (K : PySem.W.Frag) : R2 := fun x y H Q => ∃ (a b : Addr) (xs : List V), x = .ref a ∧ y = .ref b ∧ SqT K H a xs ∧ SqT K H b [] ∧ Q (.bl xs.isEmpty) H
theorem op_eqNil {X : Cx} (hu : X.A.units < cLine) : OpR X (compareOp .Eq) (rEqNil X.K) := by
  intro pins s σ H x y v u Q I rx ry h
  obtain ⟨a, b, xs, rfl, rfl, ha, hb, q⟩ := h
  obtain rfl : v = Value.ref a := rx
  obtain rfl : u = Value.ref b := ry
  obtain ⟨its, r1, p1, _⟩ := I.tuple ha
  obtain ⟨its2, r2, p2, _⟩ := I.tuple hb
  cases r2
  refine SeqAt.eq_tupleAt (e := fun _ => true) p1 p2 hu (fun j h1 h2 => absurd h2 (by simp)) ?_
  refine ⟨.bl xs.isEmpty, H, I, ?_, q⟩
  have e := r1.length
  show Value.bool _ = Value.bool _
  congr 1
  cases xs with
  | nil =>
    have : its = [] := List.length_eq_zero_iff.mp e.symm
    subst this
    rfl
  | cons y r =>
    cases its with
    | nil => cases e
    | cons z t => simp
end L2
namespace My
open PySem PySem.Spec PyProof.Rows L2
abbrev sCounted : Stmt := top 17
theorem scCounted : FnScope ["_law_thing", "_law_deep", "_law_words_here", "_law_word", "_law_many", "_law_sign", "_law_part"] ["_law_thing", "_law_deep"] (defScope sCounted) := ⟨rfl, rfl, rfl, by decide +kernel, rfl, by decide +kernel, by decide +kernel⟩
def manyT : List (Key × V) := [(Sum.inr "yes", .int 0), (Sum.inr "no", .int 0), (Sum.inr "not", .int 1), (Sum.inr "and", .int 2), (Sum.inr "or", .int 2), (Sum.inr "if", .int 2), (Sum.inr "same", .int 2)]
def manyI (x : Str) : Int := match lens x with
  | some n => n - 1
  | none => 9
theorem many_at {x : Str} (h : x ≠ "name") : (valV (mergeK [] manyT) (Sum.inr x : Key)).getD (.int 9) = .int (manyI x) := by
  have e : mergeK [] manyT = manyT := by decide +kernel
  rw [e]
  have ne : ∀ {y : Str}, ¬ x = y → ¬ (Sum.inr y : Key) = Sum.inr x := fun n z => n (Sum.inr.inj z).symm
  unfold manyT
  by_cases h1 : x = "yes"
  · subst h1
    rfl
  rw [valV_neg (ne h1)]
  by_cases h2 : x = "no"
  · subst h2
    rfl
  rw [valV_neg (ne h2)]
  by_cases h3 : x = "not"
  · subst h3
    rfl
  rw [valV_neg (ne h3)]
  by_cases h4 : x = "and"
  · subst h4
    rfl
  rw [valV_neg (ne h4)]
  by_cases h5 : x = "or"
  · subst h5
    rfl
  rw [valV_neg (ne h5)]
  by_cases h6 : x = "if"
  · subst h6
    rfl
  rw [valV_neg (ne h6)]
  by_cases h7 : x = "same"
  · subst h7
    rfl
  rw [valV_neg (ne h7), valV_nil]
  have el : lens x = none := by
    unfold lens
    rw [if_neg h1, if_neg h2, if_neg h, if_neg h3, if_neg h4, if_neg h5, if_neg h6, if_neg h7]
  unfold manyI
  rw [el]
  rfl
theorem many_len (x : Str) (k : Nat) (h9 : k + 1 ≤ 9) : decide (V.int ((k + 1 : Nat) : Int) = V.int (manyI x + 1)) = decide (lens x = some ((k : Int) + 1)) := by
  unfold manyI
  cases lens x with
  | none =>
    have a1 : decide ((none : Option Int) = some ((k : Int) + 1)) = false := decide_eq_false (by intro z; cases z)
    have a2 : decide (V.int ((k + 1 : Nat) : Int) = V.int (9 + 1)) = false := decide_eq_false (fun z => by have := V.int.inj z; omega)
    exact a2.trans a1.symm
  | some i =>
    by_cases h : i = (k : Int) + 1
    · have a1 : decide (some i = some ((k : Int) + 1)) = true := decide_eq_true (by rw [h])
      have a2 : decide (V.int ((k + 1 : Nat) : Int) = V.int (i - 1 + 1)) = true := decide_eq_true (congrArg V.int (by omega))
      exact a2.trans a1.symm
    · have a1 : decide (some i = some ((k : Int) + 1)) = false := decide_eq_false (fun z => h (Option.some.inj z))
      have a2 : decide (V.int ((k + 1 : Nat) : Int) = V.int (i - 1 + 1)) = false := decide_eq_false (fun z => h (by have := V.int.inj z; omega))
      exact a2.trans a1.symm
structure Ask (mg : Str → Option Value) (K : PySem.W.Frag) (fR : Addr) (dR : FuncData) : Prop where
  gR : mg "_law_counted" = some (.ref fR)
  kR : PySem.W.keepIn K (.ref fR) = true
  bR : Binds K dR ["_law_thing", "_law_deep"] []
  mstr : mg "str" = none
  mtuple : mg "tuple" = none
  mi : mg "isinstance" = none
  ma : mg "all" = none
  ms : mg "sum" = none
  ml : mg "len" = none
def spCounted (K : PySem.W.Frag) (n : Nat) : Sp := fun vs H Q _ => ∃ (v : V) (d : PyData) (m : Nat), vs = [v, .int (26 - (m : Int))] ∧ m < n ∧ m ≤ 25 ∧ Dp K H v d ∧ Ok d ∧ ∀ H', Same H H' → Q (.int (cnt m d : Nat)) H'
section
variable {P : Program} {w : World} {K : PySem.W.Frag} {mg : Str → Option Value} {base : Heap} {f : Addr} {fd : FuncData}
theorem ok_counted {n : Nat} (F : FnP K "_law_counted" sCounted f fd) (GR : FnOk P w K mg base CX0 n f fd ["_law_thing", "_law_deep"] (spCounted K n)) (T : Ask mg K f fd) : FnOk P w K mg base CX0 (n + 1) f fd ["_law_thing", "_law_deep"] (spCounted K (n + 1)) := by
  refine F.ok scCounted (fun vs H Q E h => ?_) (fun cdv A outer s H vs Q E hr h => ?_)
  · obtain ⟨v, d, m, rfl, _⟩ := h
    rfl
  obtain ⟨v, d, m, rfl, hm, hm25, hd, ho, q⟩ := h
  have hu := hu_of hr
  refine ⟨_, PSs.nox (pss_cons (ps_set (i := 2) scCounted.nd rfl (Or.inl rfl) (pe_lst (pa_cons pe_str (pa_cons pe_str (pa_cons pe_str (pa_cons pe_str (pa_cons pe_str (pa_cons pe_str (pa_cons pe_str pa_nil)))))))))
 (pss_cons (ps_if (PW.pt (pw_or (pt_cmpR op_gt (pv 1) pe_int (nomark _)) (pw_or (pt_not (pt_val (pe_callB call_isi (by rfl) T.mi (by decide +kernel) (pa_cons (pv 0) (pa_cons (pe_bltn (v := V.ty "tuple") (by rfl) T.mtuple (by decide +kernel) rfl) pa_nil))))) (pw_or (pt_cmpR (op_eqNil hr.units0) (pv 0) (pe_tup pa_nil) (nomark _)) (pw_or1 (pt_not (pt_val (pe_callB call_isi (by rfl) T.mi (by decide +kernel) (pa_cons (pe_ix ix_tup (pv 0) pe_int (fun _ _ => rfl)) (pa_cons (pe_bltn (v := V.ty "str") (by rfl) T.mstr (by decide +kernel) rfl) pa_nil))))))))))
 (pss_one (ps_ret pe_int)) pss_nil)
 (pss_cons (ps_if (pt_cmpR op_eq (pe_ix ix_tup (pv 0) pe_int (fun _ _ => rfl)) pe_str (nomark _))
 (pss_cons (ps_set (i := 3) scCounted.nd rfl (Or.inl rfl) (pe_ifExp (pt_cmpR op_eq (pe_callB call_len_seq (by rfl) T.ml PySem.boot_len (pa_cons (pv 0) pa_nil)) pe_int (nomark _)) (pe_ix ix_tup (pv 0) pe_int (fun _ _ => rfl)) pe_int))
 (pss_cons (ps_if (PW.pt (pw_or (pt_not (pt_val (pe_callB call_isi (by rfl) T.mi (by decide +kernel) (pa_cons (pv 3) (pa_cons (pe_bltn (v := V.ty "str") (by rfl) T.mstr (by decide +kernel) rfl) pa_nil))))) (pw_or (pt_not (pt_chain op_le op_le pe_int (pe_callB call_len_str (by rfl) T.ml PySem.boot_len (pa_cons (pv 3) pa_nil)) pe_int)) (pw_or1 (pt_cmpR op_in_seq (pv 3) (pv 2) rfl)))))
 (pss_one (ps_ret pe_int)) pss_nil)
 (pss_one (ps_ret (pe_ifExp (pt_val (pe_callB (cr_all rfl) (by rfl) T.ma (by decide +kernel) (pa_cons (pe_lc (own := [("_law_sign", 5)]) (g := gName 5) (tt := tYes) (by rfl) scCounted.nd (pi_str (pv 3)) (blkOk_by (own := [("_law_sign", 5)]) (N := ["_law_thing", "_law_deep", "_law_words_here", "_law_word", "_law_many", "_law_sign", "_law_part"]) (sc := defScope sCounted) (by decide +kernel)) (fun _ _ _ _ _ => pg_name (i := 5) scCounted.nd rfl (Or.inl rfl)) (fun _ _ _ _ _ => pts_nil) (fun _ _ _ _ _ => (pe_cmpR op_in_sign (pv 5) pe_str rfl))) pa_nil))) pe_int pe_int))))) pss_nil)
 (pss_cons (ps_set (i := 4) scCounted.nd rfl (Or.inl rfl) (pe_dget2 hu (pe_disp (pps_cons pe_str pe_int (pps_cons pe_str pe_int (pps_cons pe_str pe_int (pps_cons pe_str pe_int (pps_cons pe_str pe_int (pps_cons pe_str pe_int (pps_cons pe_str pe_int pps_nil))))))) (by rfl) (by rfl) (fun z => by cases z) (by decide)) (pe_ix ix_tup (pv 0) pe_int (fun _ _ => rfl)) pe_int ⟨by rfl, by rfl, by rfl, by rfl⟩))
 (pss_cons (ps_if (pt_cmpR op_ne (pe_callB call_len_seq (by rfl) T.ml PySem.boot_len (pa_cons (pv 0) pa_nil)) (pe_op op_add (pv 4) pe_int) (nomark _))
 (pss_one (ps_ret pe_int)) pss_nil)
 (pss_one (ps_ret (pe_op op_add pe_int (pe_callB (cr_sum rfl) (by rfl) T.ms (by decide +kernel) (pa_cons (pe_lc (own := [("_law_part", 6)]) (g := gName 6) (tt := tYes) (by rfl) scCounted.nd (pi_tup (pe_slice sl_tupA (pv 0) (po_some pe_int) po_none)) (blkOk_by (own := [("_law_part", 6)]) (N := ["_law_thing", "_law_deep", "_law_words_here", "_law_word", "_law_many", "_law_sign", "_law_part"]) (sc := defScope sCounted) (by decide +kernel)) (fun _ _ _ _ _ => pg_name (i := 6) scCounted.nd rfl (Or.inl rfl)) (fun _ _ _ _ _ => pts_nil) (fun _ _ _ _ _ => (pe_call GR hr (by rfl) T.gR T.kR T.bR .nil pass0 (pa_cons (pv 6) (pa_cons (pe_op op_add (pv 1) pe_int) pa_nil))))) pa_nil)))))))))), ?_⟩
  refine ⟨(by show 7 ≤ sizeLine; decide), fun pw nw => ?_⟩
  have s1 := same_new nw (.lst [.str "not", .str "and", .str "or", .str "gives", .str "is", .str "yes", .str "no"])
  have ew : (upd H pw (.lst [.str "not", .str "and", .str "or", .str "gives", .str "is", .str "yes", .str "no"])) pw = some (.lst (barred.map V.str)) := upd_same
  generalize upd H pw (.lst [.str "not", .str "and", .str "or", .str "gives", .str "is", .str "yes", .str "no"]) = H1 at s1 ew ⊢
  have bad : formD d = false → ∀ H', Same H H' → Q (.int 1000) H' := fun hf H' sH => by
    have e : cnt m d = 1000 := by
      cases m with
      | zero => rfl
      | succ j =>
        unfold cnt
        rw [hf, if_neg (by decide)]
    rw [e] at q
    exact q H' sH
  refine ⟨_, rfl, _, _, rfl, rfl, _, rfl, ite2 (fun c => ?_) (fun c => ?_)⟩
  · have c2 : (25 : Int) < 26 - (m : Int) := of_decide_eq_true c
    have m0 : m = 0 := by omega
    refine iteT ?_
    rw [m0] at q
    exact q H1 s1
  have c2 : ¬ (25 : Int) < 26 - (m : Int) := of_decide_eq_false (Bool.eq_false_iff.mpr c)
  obtain ⟨j, rfl⟩ : ∃ j, m = j + 1 := ⟨m - 1, by omega⟩
  have ec : cnt (j + 1) d = if formD d = true then 1 + ((kidsD d).map (cnt j)).sum else 1000 := rfl
  refine is_tup rfl (dp_same s1 hd) _ ⟨_, rfl, ?_⟩
  cases hs : isTup d with
  | false =>
    refine iteT ?_
    exact bad (by cases d <;> first | rfl | cases hs) H1 s1
  | true =>
    refine iteF ?_
    obtain ⟨ds, rfl⟩ : ∃ ds, d = .tuple ds := by cases d <;> first | exact ⟨_, rfl⟩ | cases hs
    have hf1 := (ok_form_of ho _ rfl).1
    have hf2 := (ok_form_of ho _ rfl).2
    have hw9 : ds.length ≤ 9 := by
      obtain ⟨n, hn⟩ := ho
      exact (fits_tup hn).1
    cases hd with
    | @tup a xs _ ha hall =>
    refine ⟨_, rfl, Nat.zero_le _, fun p0 n0 => ?_⟩
    have s2 := s1.trans (same_new n0 (.tup []))
    have ew2 := same_new n0 (.tup []) _ _ ew
    refine ⟨a, p0, xs, rfl, rfl, same_tup s2 ha, .inl (.inl upd_same), _, rfl, ?_⟩
    generalize upd H1 p0 (.tup []) = H2 at s2 ew2 ⊢
    cases hall with
    | nil =>
      refine iteT ?_
      exact bad rfl H2 s2
    | @cons v0 vs d0 r h0 hall =>
      refine iteF ?_
      have ha2 := same_tup s2 ha
      refine ⟨_, rfl, a, _, _, _, rfl, rfl, ha2, at0, v0, .ty "str", _, _, _, rfl, .ty _, dp_ty (dp_same s2 h0), kit_ty (kit_str d0), _, rfl, ?_⟩
      cases hs0 : isStr d0 with
      | false =>
        refine iteT ?_
        exact bad (by cases d0 <;> first | rfl | cases hs0) H2 s2
      | true =>
        refine iteF ?_
        obtain ⟨x, rfl⟩ : ∃ x, d0 = .str x := by cases d0 <;> first | exact ⟨_, rfl⟩ | cases hs0
        cases h0
        have hlv := dp_len hall
        have ef : formD (.tuple (.str x :: r)) = (decide (lens x = some ((r.length : Int) + 1)) && (decide (x ≠ "name") || headWord r)) := rfl
        have l2 : lens "name" = some 2 := by decide +kernel
        refine ⟨_, rfl, a, _, _, _, rfl, rfl, ha2, at0, rfl, _, rfl, ite2 (fun c3 => ?_) (fun c3 => ?_)⟩
        · -- a name
          have ex : x = "name" := V.str.inj (of_decide_eq_true c3)
          subst ex
          have efn : formD (.tuple (.str "name" :: r)) = (decide (r.length = 1) && headWord r) := by
            rw [ef, l2]
            congr 1
            by_cases h : r.length = 1
            · rw [decide_eq_true h, decide_eq_true (by rw [h]; rfl)]
            · rw [decide_eq_false h, decide_eq_false (fun z => h (by have := Option.some.inj z; omega))]
          have ecn : cnt (j + 1) (.tuple (.str "name" :: r)) = if (decide (r.length = 1) && headWord r) = true then 1 else 1000 := by
            rw [ec, efn]
            rfl
          refine ⟨_, rfl, a, _, rfl, .inr ha2, rfl, _, rfl, ite2 (fun c4 => ?_) (fun c4 => ?_)⟩
          · have h1 : r.length = 1 := by
              have := V.int.inj (of_decide_eq_true c4)
              rw [List.length_cons, hlv] at this
              omega
            cases hall with
            | nil => cases h1
            | @cons v1 vs1 d1 r1 hd1 hall1 =>
            cases hall1 with
            | cons _ _ => cases h1
            | nil =>
            have e1 : (decide ([d1].length = 1) && headWord [d1]) = wordD d1 := rfl
            rw [e1] at ecn efn
            have hfew := hf2 d1 (List.mem_cons_of_mem _ List.mem_cons_self)
            refine ⟨_, rfl, a, _, _, _, rfl, rfl, ha2, at1, ?_⟩
            refine is_str rfl (dp_same s2 hd1) _ ⟨_, rfl, ?_⟩
            cases hs1 : isStr d1 with
            | false =>
              refine iteT ?_
              exact bad (by rw [efn]; cases d1 <;> first | rfl | cases hs1) H2 s2
            | true =>
              refine iteF ?_
              obtain ⟨y, rfl⟩ : ∃ y, d1 = .str y := by cases d1 <;> first | exact ⟨_, rfl⟩ | cases hs1
              cases hd1
              have hy : y.length ≤ 1000 := hfew
              have eww : wordD (.str y) = (decide ((1 : Int) ≤ (y.length : Int)) && (decide ((y.length : Int) ≤ 8) && (!inV (.str y) (barred.map V.str) && (y.cps.toList.map fun c => decide (c ∈ abc.cps.toList)).all id))) := rfl
              rw [eww] at ecn efn
              refine ⟨_, rfl, y, rfl, small hy, _, _, rfl, rfl, _, rfl, ?_⟩
              cases e1 : decide ((1 : Int) ≤ (y.length : Int)) with
              | false =>
                refine iteF ?_
                refine ⟨_, rfl, ?_⟩
                refine iteT ?_
                exact bad (by rw [efn, e1]; rfl) H2 s2
              | true =>
                refine iteT ?_
                refine ⟨_, _, rfl, rfl, _, rfl, ?_⟩
                cases e2 : decide ((y.length : Int) ≤ 8) with
                | false =>
                  refine iteT ?_
                  exact bad (by rw [efn, e1, e2]; rfl) H2 s2
                | true =>
                  refine iteF ?_
                  refine ⟨_, rfl, _, rfl, pw, _, rfl, .inl (SqL.of ew2), rfl, flat_strs barred, _, rfl, ?_⟩
                  cases e3 : inV (.str y) (barred.map V.str) with
                  | true =>
                    refine iteT ?_
                    exact bad (by rw [efn, e1, e2, e3]; rfl) H2 s2
                  | false =>
                    refine iteF ?_
                    refine ⟨_, rfl, y, rfl, fun D nD => lc_it walk_str (fun j H' => H' D = some (.lst (((y.cps.toList.take j).map fun c => decide (c ∈ abc.cps.toList)).map V.bl)) ∧ Same H2 H') ?_ (fun _ _ _ _ => trivial) ?_ ?_⟩
                    · exact ⟨upd_same, same_new nD _⟩
                    · rintro i v H3 H4 hi ⟨eD, s3⟩ ⟨rfl, c, hc, rfl⟩
                      have hi' : i < y.length := hi
                      refine ⟨rfl, ?_⟩
                      refine ⟨_, rfl, c, abc, rfl, rfl, _, eD, ?_, ?_, ?_⟩
                      · rw [List.length_map, List.length_map, List.length_take]
                        exact small1000 (by omega)
                      · have hc' : y.cps.toList[i]? = some c := by rw [Array.getElem?_toList]; exact hc
                        rw [upd_same, List.take_add_one, hc', List.map_append, List.map_append]
                        rfl
                      · intro b o h
                        rw [upd_ne (ne_of_none h nD)]
                        exact s3 _ _ h
                    · rintro H3 ⟨eD, s3⟩
                      have et : y.cps.toList.take y.cps.size = y.cps.toList := List.take_of_length_le (by rw [Array.length_toList]; exact Nat.le_refl _)
                      rw [et] at eD
                      refine ⟨D, _, rfl, SqL.of eD, _, rfl, ?_⟩
                      cases e4 : (y.cps.toList.map fun c => decide (c ∈ abc.cps.toList)).all id with
                      | true =>
                        refine iteT ?_
                        rw [ecn, e1, e2, e3, e4] at q
                        exact q H3 (s2.trans s3)
                      | false =>
                        refine iteF ?_
                        exact bad (by rw [efn, e1, e2, e3, e4]; rfl) H3 (s2.trans s3)
          · have h1 : r.length ≠ 1 := fun z => c4 (decide_eq_true (by rw [List.length_cons, hlv, z]; rfl))
            refine is_str rfl (.int 0) _ ⟨_, rfl, ?_⟩
            refine iteT ?_
            exact bad (by rw [efn, decide_eq_false h1]; rfl) H2 s2
        · have ex : x ≠ "name" := fun z => c3 (decide_eq_true (by rw [z]))
          have ef2 : formD (.tuple (.str x :: r)) = decide (lens x = some ((r.length : Int) + 1)) := by
            rw [ef, decide_eq_true ex, Bool.true_or, Bool.and_true]
          have ek : kidsD (.tuple (.str x :: r)) = r := if_neg ex
          rw [ef2, ek] at ec
          refine fun pd nd => ⟨upd_same, manyT, rfl, (by show 7 ≤ 15; decide), pd, rfl, .inl ⟨_, .inl upd_same⟩, ?_⟩
          have s3 : Same H (upd (upd H2 pd (.dK [])) pd (.dK (mergeK [] manyT))) := fun b o h => by
            have h2 := s2 _ _ h
            rw [upd_ne (ne_of_none h2 nd), upd_ne (ne_of_none h2 nd)]
            exact h2
          have hg : DGet (upd (upd H2 pd (.dK [])) pd (.dK (mergeK [] manyT))) pd (.str x) (valV (mergeK [] manyT) (Sum.inr x : Key)) := DGet.k (k := Sum.inr x) upd_same
          generalize upd (upd H2 pd (.dK [])) pd (.dK (mergeK [] manyT)) = H3 at s3 hg ⊢
          have ha3 := same_tup s3 ha
          refine ⟨_, rfl, a, _, _, _, rfl, rfl, ha3, at0, _, hg, ?_⟩
          rw [many_at ex]
          refine ⟨_, rfl, a, _, rfl, .inr ha3, _, rfl, _, _, rfl, rfl, rfl, _, rfl, ?_⟩
          have el : (!decide (V.int (((V.str x :: vs).length : Nat) : Int) = V.int (manyI x + 1))) = !decide (lens x = some ((r.length : Int) + 1)) := by
            rw [List.length_cons, hlv]
            rw [List.length_cons] at hw9
            exact congrArg (!·) (many_len x r.length hw9)
          rw [el]
          cases e1 : decide (lens x = some ((r.length : Int) + 1)) with
          | false =>
            refine iteT ?_
            exact bad (by rw [ef2, e1]) H3 s3
          | true =>
            refine iteF ?_
            rw [e1, if_pos rfl] at ec
            refine ⟨_, rfl, 1, rfl, a, _, rfl, ha3, fun z => ?_, fun _ pp npp => ?_⟩
            · have z1 := z.1
              rw [show HT.sIx (V.str x :: vs).length 0 (some 1) = min 1 (V.str x :: vs).length from HT.sIx_nat _ _ 1, List.length_cons] at z1
              omega
            have e9 : cutV (V.str x :: vs) (some 1) none = vs := by
              unfold cutV
              rw [show HT.sIx (V.str x :: vs).length 0 (some 1) = min 1 (V.str x :: vs).length from HT.sIx_nat _ _ 1, HT.sIx_none, List.length_cons]
              have e1 : min 1 (vs.length + 1) = 1 := by omega
              rw [e1]
              show List.take (vs.length + 1 - 1) vs = vs
              rw [Nat.add_sub_cancel]
              exact List.take_length
            rw [e9]
            have s4 := same_new npp (.tup vs)
            have e4 : SqT K (upd H3 pp (.tup vs)) pp vs := .inl (.inl upd_same)
            refine ⟨pp, rfl, ⟨_, e4⟩, fun D nD => lc_tup (K := K) (a := pp) (xs := vs) (fun i H' => H' D = some (.lst (((r.take i).map fun c => ((cnt j c : Nat) : Int)).map V.int)) ∧ Same (upd H3 pp (.tup vs)) H') ?_ ?_ ?_ ?_⟩
            · exact ⟨upd_same, same_new nD _⟩
            · rintro i H' _ ⟨_, s5⟩
              exact same_tup s5 e4
            · rintro i y H5 hi ⟨eD, s5⟩
              have hil : i < vs.length := (List.getElem?_eq_some_iff.mp hi).1
              obtain ⟨dc, hdc, hDc⟩ := dp_get hall hi
              refine ⟨rfl, ?_⟩
              have sA := (s3.trans s4).trans s5
              have okc : Ok dc := by
                have := ok_kids ho dc
                rw [ek] at this
                exact this (List.mem_of_getElem? hdc)
              refine ⟨_, rfl, _, rfl, _, _, rfl, rfl, y, dc, j, ?_, by omega, by omega, dp_same sA hDc, okc, fun H6 s6 => ?_⟩
              · show [y, V.int (26 - ((j + 1 : Nat) : Int) + 1)] = [y, V.int (26 - (j : Int))]
                have e26 : (26 : Int) - ((j + 1 : Nat) : Int) + 1 = 26 - (j : Int) := by omega
                rw [e26]
              · refine ⟨_, s6 _ _ eD, ?_, ?_, ?_⟩
                · rw [List.length_map, List.length_map, List.length_take]
                  exact small1000 (by have := hw9; rw [List.length_cons] at this; omega)
                · rw [upd_same, List.take_add_one, hdc, List.map_append, List.map_append]
                  rfl
                · intro b o h
                  rw [upd_ne (ne_of_none h nD)]
                  exact s6 _ _ (s5 _ _ h)
            · rintro H5 ⟨eD, s5⟩
              have et : r.take vs.length = r := by rw [hlv]; exact List.take_length
              rw [et] at eD
              refine ⟨D, _, rfl, SqL.of eD, _, _, rfl, rfl, ?_⟩
              have es : ∀ l : List PyData, (l.map fun c => ((cnt j c : Nat) : Int)).sum = (((l.map (cnt j)).sum : Nat) : Int) := fun l => by
                induction l with
                | nil => rfl
                | cons c l ih =>
                  rw [List.map_cons, List.sum_cons, ih, List.map_cons, List.sum_cons]
                  omega
              have e10 : ((1 : Int) + (r.map fun c => ((cnt j c : Nat) : Int)).sum) = ((cnt (j + 1) (.tuple (.str x :: r)) : Nat) : Int) := by
                rw [es, ec]
                omega
              rw [← e10] at q
              exact q H5 ((s3.trans s4).trans s5)
theorem no_counted : FnOk P w K mg base CX0 0 f fd ["_law_thing", "_law_deep"] (spCounted K 0) := by
  have no : ∀ vs H Q E, ¬ spCounted K 0 vs H Q E := fun vs H Q E h => by
    obtain ⟨v, d, m, _, h1, _⟩ := h
    omega
  exact ⟨fun vs H Q E h => absurd h (no vs H Q E), fun A outer s H args us vs Q E _ _ _ _ h => absurd h (no vs H Q E)⟩
theorem all_counted (F : FnP K "_law_counted" sCounted f fd) (T : Ask mg K f fd) : ∀ n : Nat, FnOk P w K mg base CX0 n f fd ["_law_thing", "_law_deep"] (spCounted K n)
  | 0 => no_counted
  | n + 1 => ok_counted F (all_counted F T n) T
end
end My

set_option maxRecDepth 100000
set_option maxHeartbeats 4000000
namespace My
open PySem PySem.Spec PyProof.Rows L2
abbrev sSay : Stmt := top 16
theorem scSay : FnScope ["_law_tape_here", "_law_names", "_law_left", "_law_deep", "_law_kind", "_law_word", "_law_first"] ["_law_tape_here", "_law_names", "_law_left", "_law_deep"] (defScope sSay) := ⟨rfl, rfl, rfl, by decide +kernel, rfl, by decide +kernel, by decide +kernel⟩
/-! ### trees of tuples and texts -/
mutual
inductive Tt (H : Hp) : V → PyData → Prop
  | str (x : Str) : Tt H (.str x) (.str x)
  | tup {a : Addr} {xs : List V} {ds : List PyData} : H a = some (.tup xs) → TtAll H xs ds → Tt H (.ref a) (.tuple ds)
inductive TtAll (H : Hp) : List V → List PyData → Prop
  | nil : TtAll H [] []
  | cons {v : V} {vs : List V} {d : PyData} {ds : List PyData} : Tt H v d → TtAll H vs ds → TtAll H (v :: vs) (d :: ds)
end
mutual
theorem tt_keep {H H' : Hp} (s : TupK H H') : ∀ {v : V} {d : PyData}, Tt H v d → Tt H' v d
  | _, _, .str x => .str x
  | _, _, .tup h hs => .tup (s _ _ h) (tt_keepAll s hs)
theorem tt_keepAll {H H' : Hp} (s : TupK H H') : ∀ {vs : List V} {ds : List PyData}, TtAll H vs ds → TtAll H' vs ds
  | _, _, .nil => .nil
  | _, _, .cons h hs => .cons (tt_keep s h) (tt_keepAll s hs)
end
mutual
theorem tt_dp {K : PySem.W.Frag} {H : Hp} : ∀ {v : V} {d : PyData}, Tt H v d → Dp K H v d
  | _, _, .str x => .str x
  | _, _, .tup h hs => .tup (.inl (.inl h)) (tt_dpAll hs)
theorem tt_dpAll {K : PySem.W.Frag} {H : Hp} : ∀ {vs : List V} {ds : List PyData}, TtAll H vs ds → DpAll K H vs ds
  | _, _, .nil => .nil
  | _, _, .cons h hs => .cons (tt_dp h) (tt_dpAll hs)
end
theorem fits_mono {w w' : Nat} (hw : w ≤ w') : ∀ {n n' : Nat} {d : PyData}, n ≤ n' → Fits w n d → Fits w' n' d := by
  intro n
  induction n with
  | zero =>
    intro n' d hn h
    cases d <;> cases n' <;> first | trivial | exact h | exact h.elim
  | succ n ih =>
    intro n' d hn h
    obtain ⟨m, rfl⟩ : ∃ m, n' = m + 1 := ⟨n' - 1, by omega⟩
    cases d <;> first | trivial | exact h | exact h.elim | exact ⟨Nat.le_trans h.1 hw, fun c hc => ih (by omega) (h.2 c hc)⟩
theorem fits_str {w n : Nat} {x : Str} (h : x.length ≤ 1000) : Fits w n (.str x) := by cases n <;> exact h
/-- all but T and F is as it was -/
def Keep2 (T F : Addr) (H H' : Hp) : Prop := ∀ b o, H b = some o → b ≠ T → b ≠ F → H' b = some o
theorem Keep2.of {T F : Addr} {H H' : Hp} (k : Keep T H H') : Keep2 T F H H' := fun b o h n _ => k b o h n
theorem Keep2.same {T F : Addr} {H H' : Hp} (k : Same H H') : Keep2 T F H H' := fun b o h _ _ => k b o h
theorem Keep2.trans {T F : Addr} {H H1 H2 : Hp} (a : Keep2 T F H H1) (b : Keep2 T F H1 H2) : Keep2 T F H H2 := fun c o h n m => b c o (a c o h n m) n m
theorem Keep2.put {T F : Addr} {H : Hp} {o : HO} : Keep2 T F H (upd H F o) := fun b u h _ m => by
  rw [upd_ne m]
  exact h
/-- the tape at T, the list at F -/
structure Two (H : Hp) (T L F : Addr) (B l : Int) : Prop where
  t : Tape H T L B
  f : H F = some (.lst [.int l])
  ne : F ≠ L
theorem Two.nT {H : Hp} {T L F : Addr} {B l : Int} (w : Two H T L F B l) : F ≠ T := fun z => by
  obtain ⟨ns, s, k, a, _⟩ := w.t
  have e := w.f
  rw [z, a.d] at e
  cases e
theorem Two.tup {H H' : Hp} {T L F : Addr} {B l : Int} (w : Two H T L F B l) (k : Keep2 T F H H') : TupK H H' := fun b xs h => by
  refine k b _ h (fun z => ?_) (fun z => ?_)
  · obtain ⟨ns, s, m, a, _⟩ := w.t
    rw [z, a.d] at h
    cases h
  · rw [z, w.f] at h
    cases h
structure Grow (mg : Str → Option Value) (K : PySem.W.Frag) (fD fS : Addr) (dD dS : FuncData) : Prop where
  gD : mg "_law_draw" = some (.ref fD)
  kD : PySem.W.keepIn K (.ref fD) = true
  bD : Binds K dD ["_law_tape_here", "_law_many"] []
  gS : mg "_law_saying" = some (.ref fS)
  kS : PySem.W.keepIn K (.ref fS) = true
  bS : Binds K dS ["_law_tape_here", "_law_names", "_law_left", "_law_deep"] []
  ml : mg "len" = none
  mmin : mg "min" = none
  mint : mg "int" = none
def spSay (n : Nat) : Sp := fun vs H Q _ => ∃ (T L N F : Addr) (ws : List Str) (l B : Int) (k : Nat), vs = [.ref T, .ref N, .ref F, .int (k : Nat)] ∧ k < n ∧ 1 ≤ k ∧ Two H T L F B l ∧ 0 ≤ l ∧ H N = some (.lst (ws.map V.str)) ∧ 0 < ws.length ∧ ws.length ≤ 12 ∧ (∀ z ∈ ws, z.length ≤ 8) ∧
  B + 33 * (1 + l) + 100 ≤ 1000000 ∧
  ∀ (H' : Hp) (a : Addr) (d : PyData) (l' : Int), 0 ≤ l' → l' ≤ l → Two H' T L F (B + 33 * (1 + l - l')) l' → Keep2 T F H H' → Tt H' (.ref a) d → Fits 3 (k + 2) d → Q (.ref a) H'
section
variable {P : Program} {w : World} {K : PySem.W.Frag} {mg : Str → Option Value} {base : Heap} {f fD : Addr} {fd dD : FuncData}
theorem ok_say {n : Nat} (F0 : FnP K "_law_saying" sSay f fd) (GD : FnOk P w K mg base CX0 11 fD dD ["_law_tape_here", "_law_many"] (spDraw 11)) (GR : FnOk P w K mg base CX0 (11 + n) f fd ["_law_tape_here", "_law_names", "_law_left", "_law_deep"] (spSay n)) (T0 : Grow mg K fD f dD fd) :
    FnOk P w K mg base CX0 (11 + n + 1) f fd ["_law_tape_here", "_law_names", "_law_left", "_law_deep"] (spSay (n + 1)) := by
  refine F0.ok scSay (fun vs H Q E h => ?_) (fun cdv A outer s H vs Q E hr h => ?_)
  · obtain ⟨T, L, N, F, ws, l, B, k, rfl, _⟩ := h
    rfl
  obtain ⟨T, L, N, F, ws, l, B, k, rfl, hk, hk1, hw, hl0, eN, hn0, hn12, hn8, hB, q⟩ := h
  have hr11 : Room 11 _ := hr.mono (by omega)
  refine ⟨_, PSs.nox (pss_cons (ps_set (i := 4) scSay.nd rfl (Or.inl rfl) (pe_call GD hr11 (by rfl) T0.gD T0.kD T0.bD .nil pass0 (pa_cons (pv 0) (pa_cons pe_int pa_nil))))
 (pss_cons (ps_if (PW.pt (pw_or (pt_cmpR op_lt (pe_ix ix_list (pv 2) pe_int (fun _ _ => rfl)) pe_int (nomark _)) (pw_or (pt_cmpR op_lt (pv 3) pe_int (nomark _)) (pw_or1 (pt_cmpR op_lt (pv 4) pe_int (nomark _))))))
 (pss_one (ps_ret (pe_ix ix_list (pe_lst (pa_cons (pe_tup (pa_cons pe_str pa_nil)) (pa_cons (pe_tup (pa_cons pe_str pa_nil)) (pa_cons (pe_tup (pa_cons pe_str (pa_cons (pe_ix ix_list (pv 1) (pe_call GD hr11 (by rfl) T0.gD T0.kD T0.bD .nil pass0 (pa_cons (pv 0) (pa_cons (pe_callB call_len_seq (by rfl) T0.ml PySem.boot_len (pa_cons (pv 1) pa_nil)) pa_nil))) (fun _ _ => rfl)) pa_nil))) pa_nil)))) (pe_callB (call_min2 rfl) (by rfl) T0.mmin (by decide +kernel) (pa_cons pe_int (pa_cons (pe_call GD hr11 (by rfl) T0.gD T0.kD T0.bD .nil pass0 (pa_cons (pv 0) (pa_cons pe_int pa_nil))) pa_nil))) (fun _ _ => rfl)))) pss_nil)
 (pss_cons (ps_asg (pe_op op_sub (pe_op op_sub (pe_ix ix_list (pv 2) pe_int (fun _ _ => rfl)) pe_int) (pe_callTy call_int1 (by rfl) T0.mint (by decide +kernel) (pa_cons (pe_cmpR op_gt (pv 4) pe_int (nomark _)) pa_nil))) (pg_sub (pv 2) pe_int set_list))
 (pss_cons (ps_if (pt_cmpR op_eq (pv 4) pe_int (nomark _))
 (pss_one (ps_ret (pe_tup (pa_cons pe_str (pa_cons (pe_call GR hr (by rfl) T0.gS T0.kS T0.bS .nil pass0 (pa_cons (pv 0) (pa_cons (pv 1) (pa_cons (pv 2) (pa_cons (pe_op op_sub (pv 3) pe_int) pa_nil))))) pa_nil))))) pss_nil)
 (pss_cons (ps_set (i := 5) scSay.nd rfl (Or.inl rfl) (pe_ix ix_list (pe_lst (pa_cons pe_str (pa_cons pe_str (pa_cons pe_str (pa_cons pe_str (pa_cons pe_str (pa_cons pe_str pa_nil))))))) (pe_op op_sub (pv 4) pe_int) (fun _ _ => rfl)))
 (pss_cons (ps_set (i := 6) scSay.nd rfl (Or.inl rfl) (pe_call GR hr (by rfl) T0.gS T0.kS T0.bS .nil pass0 (pa_cons (pv 0) (pa_cons (pv 1) (pa_cons (pv 2) (pa_cons (pe_op op_sub (pv 3) pe_int) pa_nil))))))
 (pss_one (ps_ret (pe_tup (pa_cons (pv 5) (pa_cons (pv 6) (pa_cons (pe_call GR hr (by rfl) T0.gS T0.kS T0.bS .nil pass0 (pa_cons (pv 0) (pa_cons (pv 1) (pa_cons (pv 2) (pa_cons (pe_op op_sub (pv 3) pe_int) pa_nil))))) pa_nil)))))))))))), ?_⟩
  have nF : F ≠ T := hw.nT
  have nN : N ≠ T := fun z => by
    obtain ⟨ns, s, m, a, _⟩ := hw.t
    rw [z, a.d] at eN
    cases eN
  refine ⟨_, rfl, T, L, 10, B, rfl, by decide, by decide, by omega, hw.t, fun H1 kd k0 k1 t1 kp1 => ?_⟩
  have eN1 := kp1 _ _ eN nN
  have eF1 := kp1 _ _ hw.f nF
  have w1 : Two H1 T L F (B + 11) l := ⟨t1, eF1, hw.ne⟩
  apply cutR
  case k =>
    intro leaf
    refine ⟨_, rfl, F, _, _, _, rfl, rfl, SqL.of eF1, at0, _, _, rfl, rfl, _, rfl, ite2 (fun _ => ?ka) (fun c1 => ⟨_, rfl, _, _, rfl, rfl, _, rfl, ite2 (fun _ => ?kb) (fun c2 => ⟨_, rfl, _, _, rfl, rfl, _, rfl, ite2 (fun _ => ?kc) (fun c3 => ?kd)⟩)⟩)⟩
    case kc => exact leaf
    case ka => exact iteT leaf
    case kb => exact iteT leaf
    case kd =>
      have d1 : ¬ l < 2 := of_decide_eq_false (Bool.eq_false_iff.mpr c1)
      have d2 : ¬ (k : Int) < 2 := of_decide_eq_false (Bool.eq_false_iff.mpr c2)
      have d3 : ¬ kd < 3 := of_decide_eq_false (Bool.eq_false_iff.mpr c3)
      obtain ⟨j, rfl⟩ : ∃ j, k = j + 1 := ⟨k - 1, by omega⟩
      -- left[0] = ..
      refine ⟨_, rfl, F, _, _, _, rfl, rfl, SqL.of eF1, at0, _, _, rfl, rfl, _, rfl, _, _, rfl, rfl, .inr ⟨_, rfl, _, _, rfl, rfl, ?_⟩⟩
      refine ⟨_, rfl, F, _, _, 0, rfl, rfl, eF1, rfl, ?_⟩
      have kp2 : Keep2 T F H (upd H1 F (.lst [.int (l - 1 - (if decide (3 < kd) = true then 1 else 0))])) := (Keep2.of kp1).trans Keep2.put
      have w2 : Two (upd H1 F (.lst [.int (l - 1 - (if decide (3 < kd) = true then 1 else 0))])) T L F (B + 11) (l - 1 - (if decide (3 < kd) = true then 1 else 0)) := ⟨t1.put nF hw.ne, upd_same, hw.ne⟩
      have nFN : N ≠ F := fun z => by
        rw [z, eF1] at eN1
        cases ws with
        | nil => exact absurd hn0 (by decide)
        | cons _ _ => cases eN1
      have eN2 : (upd H1 F (.lst [.int (l - 1 - (if decide (3 < kd) = true then 1 else 0))])) N = some (.lst (ws.map V.str)) := by
        rw [upd_ne nFN]
        exact eN1
      have ejj : ((j + 1 : Nat) : Int) - 1 = (j : Int) := by omega
      have eargs : [V.ref T, V.ref N, V.ref F, V.int (((j + 1 : Nat) : Int) - 1)] = [V.ref T, V.ref N, V.ref F, V.int (j : Int)] := by rw [ejj]
      rw [show ([V.int l].set 0 ((fun i j => V.int (i - j)) (l - 1) (if decide (3 < kd) = true then 1 else 0))) = [V.int (l - 1 - (if decide (3 < kd) = true then 1 else 0))] from rfl]
      by_cases h3 : kd = 3
      · have e3 : (if decide ((3 : Int) < kd) = true then (1 : Int) else 0) = 0 := by rw [if_neg]; rw [decide_eq_true_iff]; omega
        rw [e3] at kp2 w2 eN2
        rw [e3]
        have e4 : l - 1 - 0 = l - 1 := by omega
        rw [e4] at kp2 w2 eN2
        rw [e4]
        generalize upd H1 F (.lst [.int (l - 1)]) = H2 at kp2 w2 eN2 ⊢
        refine ⟨_, rfl, rfl, _, rfl, ?_⟩
        rw [decide_eq_true (by rw [h3])]
        refine iteT ?_
        refine ⟨_, rfl, _, rfl, _, rfl, _, rfl, _, _, rfl, rfl, T, L, N, F, ws, l - 1, B + 11, j, eargs, by omega, by omega, w2, by omega, eN2, hn0, hn12, hn8, by omega, fun H3 a d l' l0 l1 w3 k3 t3 f3 => ?_⟩
        refine ⟨(by show 2 ≤ sizeLine; decide), fun p np => ?_⟩
        have s4 := same_new np (.tup [.str "not", .ref a])
        refine q _ p (.tuple [.str "not", d]) l' l0 (by omega) ⟨(w3.t.same s4).more (by omega), s4 _ _ w3.f, hw.ne⟩ ((kp2.trans k3).trans (Keep2.same s4)) (.tup upd_same (.cons (.str _) (.cons (tt_keep (TupK.of s4) t3) .nil))) ?_
        refine ⟨by show 2 ≤ 3; decide, fun c hc => ?_⟩
        rcases List.mem_cons.mp hc with rfl | hc
        · exact fits_str (by decide)
        · rw [List.mem_singleton.mp hc]
          exact f3
      · have e3 : (if decide ((3 : Int) < kd) = true then (1 : Int) else 0) = 1 := by rw [if_pos]; exact decide_eq_true (by omega)
        rw [e3] at kp2 w2 eN2
        rw [e3]
        have e4 : l - 1 - 1 = l - 2 := by omega
        rw [e4] at kp2 w2 eN2
        rw [e4]
        generalize upd H1 F (.lst [.int (l - 2)]) = H2 at kp2 w2 eN2 ⊢
        refine ⟨_, rfl, rfl, _, rfl, ?_⟩
        rw [decide_eq_false (fun z => h3 (V.int.inj z))]
        refine iteF ?_
        -- word
        refine ⟨(by show 6 ≤ sizeLine; decide), fun pw nw => ?_⟩
        have s3 := same_new nw (.lst [.str "and", .str "or", .str "if", .str "same", .str "and", .str "or"])
        have ew : (upd H2 pw (.lst [.str "and", .str "or", .str "if", .str "same", .str "and", .str "or"])) pw = some (.lst [.str "and", .str "or", .str "if", .str "same", .str "and", .str "or"]) := upd_same
        have hwd : ∃ x : Str, atI ([.str "and", .str "or", .str "if", .str "same", .str "and", .str "or"] : List V) (kd - 4) = some (.str x) ∧ x.length ≤ 1000 := by
          have c6 : kd - 4 = 0 ∨ kd - 4 = 1 ∨ kd - 4 = 2 ∨ kd - 4 = 3 ∨ kd - 4 = 4 ∨ kd - 4 = 5 := by omega
          rcases c6 with h | h | h | h | h | h <;> rw [h] <;> exact ⟨_, rfl, by decide⟩
        obtain ⟨x, hx, hxl⟩ := hwd
        have w3 : Two (upd H2 pw (.lst [.str "and", .str "or", .str "if", .str "same", .str "and", .str "or"])) T L F (B + 11) (l - 2) := ⟨w2.t.same s3, s3 _ _ w2.f, hw.ne⟩
        have kp3 := kp2.trans (Keep2.same (T := T) (F := F) s3)
        have eN3 := s3 _ _ eN2
        generalize upd H2 pw (.lst [.str "and", .str "or", .str "if", .str "same", .str "and", .str "or"]) = H3 at ew w3 kp3 eN3 ⊢
        refine ⟨_, rfl, _, _, rfl, rfl, pw, _, _, _, rfl, rfl, SqL.of ew, hx, ?_⟩
        -- the first
        refine ⟨_, rfl, _, rfl, _, rfl, _, rfl, _, _, rfl, rfl, T, L, N, F, ws, l - 2, B + 11, j, eargs, by omega, by omega, w3, by omega, eN3, hn0, hn12, hn8, by omega, fun H4 a d l' l0 l1 w4 k4 t4 f4 => ?_⟩
        have eN4 := k4 _ _ eN3 nN nFN
        -- the second
        refine ⟨_, rfl, _, rfl, _, rfl, _, rfl, _, rfl, _, rfl, _, _, rfl, rfl, T, L, N, F, ws, l', B + 11 + 33 * (1 + (l - 2) - l'), j, eargs, by omega, by omega, w4, by omega, eN4, hn0, hn12, hn8, by omega, fun H5 a' d' l2 l20 l21 w5 k5 t5 f5 => ?_⟩
        refine ⟨(by show 3 ≤ sizeLine; decide), fun p np => ?_⟩
        have s6 := same_new np (.tup [.str x, .ref a, .ref a'])
        refine q _ p (.tuple [.str x, d, d']) l2 l20 (by omega) ⟨(w5.t.same s6).more (by omega), s6 _ _ w5.f, hw.ne⟩ (((kp3.trans k4).trans k5).trans (Keep2.same s6))
          (.tup upd_same (.cons (.str _) (.cons (tt_keep ((w4.tup k5).trans (TupK.of s6)) t4) (.cons (tt_keep (TupK.of s6) t5) .nil)))) ?_
        refine ⟨by show 3 ≤ 3; decide, fun c hc => ?_⟩
        rcases List.mem_cons.mp hc with rfl | hc
        · exact fits_str hxl
        · rcases List.mem_cons.mp hc with rfl | hc
          · exact f4
          · rw [List.mem_singleton.mp hc]
            exact f5
  -- a leaf
  refine ⟨(by show 1 ≤ sizeLine; decide), fun a1 n1 => ⟨(by show 1 ≤ sizeLine; decide), fun a2 n2 => ?_⟩⟩
  have s2 := same_new n1 (.tup [.str "yes"])
  have s3 := same_new n2 (.tup [.str "no"])
  have g1 := s3 _ _ (upd_same : (upd H1 a1 (.tup [.str "yes"])) a1 = some (.tup [.str "yes"]))
  have g2 : (upd (upd H1 a1 (.tup [.str "yes"])) a2 (.tup [.str "no"])) a2 = some (.tup [.str "no"]) := upd_same
  have s23 := s2.trans s3
  generalize (upd (upd H1 a1 (.tup [.str "yes"])) a2 (.tup [.str "no"])) = H3 at s23 g1 g2 ⊢
  have eN3 := s23 _ _ eN1
  have hlw : (((ws.map V.str).length : Nat) : Int) = (ws.length : Int) := by rw [List.length_map]
  refine ⟨_, rfl, _, rfl, _, rfl, N, _, rfl, .inl (SqL.of eN3), T, L, _, B + 11, rfl, by rw [hlw]; omega, Nat.lt_of_le_of_lt (show _ ≤ 12 by rw [hlw]; omega) (by decide), by omega, t1.same s23, fun H4 r r0 r1 t4 k4 => ?_⟩
  have eN4 := k4 _ _ eN3 nN
  obtain ⟨v, hv1, hv2⟩ := at_in (xs := ws.map V.str) r0 r1
  obtain ⟨z, hz, rfl⟩ := List.mem_map.mp hv1
  have g14 := k4 _ _ g1 (fun e => by rw [e] at g1; obtain ⟨ns, s, m, a, _⟩ := t1.same s23; rw [a.d] at g1; cases g1)
  have g24 := k4 _ _ g2 (fun e => by rw [e] at g2; obtain ⟨ns, s, m, a, _⟩ := t1.same s23; rw [a.d] at g2; cases g2)
  refine ⟨N, _, _, _, rfl, rfl, SqL.of eN4, hv2, (by show 2 ≤ sizeLine; decide), fun a3 n3 => ⟨(by show 3 ≤ sizeLine; decide), fun p np => ?_⟩⟩
  have s5 := same_new n3 (.tup [.str "name", .str z])
  have s6 := same_new np (.lst [.ref a1, .ref a2, .ref a3])
  have g36 := s6 _ _ (upd_same : (upd H4 a3 (.tup [.str "name", .str z])) a3 = some (.tup [.str "name", .str z]))
  have g16 := s6 _ _ (s5 _ _ g14)
  have g26 := s6 _ _ (s5 _ _ g24)
  have gp : (upd (upd H4 a3 (.tup [.str "name", .str z])) p (.lst [.ref a1, .ref a2, .ref a3])) p = some (.lst [.ref a1, .ref a2, .ref a3]) := upd_same
  have s56 := s5.trans s6
  generalize (upd (upd H4 a3 (.tup [.str "name", .str z])) p (.lst [.ref a1, .ref a2, .ref a3])) = H5 at s56 g16 g26 g36 gp ⊢
  have t5 := t4.same s56
  refine ⟨_, rfl, T, L, 12, _, rfl, by decide, by decide, by omega, t5, fun H6 r2 r20 r21 t6 k6 => ?_⟩
  have pT : p ≠ T := fun e => by rw [e] at gp; obtain ⟨ns, s, m, a, _⟩ := t5; rw [a.d] at gp; cases gp
  have nT : ∀ {b : Addr} {xs : List V}, H5 b = some (.tup xs) → b ≠ T := fun {b xs} g e => by rw [e] at g; obtain ⟨ns, s, m, a, _⟩ := t5; rw [a.d] at g; cases g
  have fz := fits_str (w := 3) (n := 2) (x := z) (Nat.le_trans (hn8 z hz) (by decide))
  have pick : ∃ a d, atI ([.ref a1, .ref a2, .ref a3] : List V) (if r2 < 2 then r2 else 2) = some (.ref a) ∧ Tt H6 (.ref a) d ∧ Fits 3 3 d := by
    have c3 : r2 = 0 ∨ r2 = 1 ∨ 2 ≤ r2 := by omega
    rcases c3 with h | h | h
    · subst h
      exact ⟨a1, _, rfl, .tup (k6 _ _ g16 (nT g16)) (.cons (.str _) .nil), by show 1 ≤ 3; decide, fun c hc => by rw [List.mem_singleton.mp hc]; exact fits_str (by decide)⟩
    · subst h
      exact ⟨a2, _, rfl, .tup (k6 _ _ g26 (nT g26)) (.cons (.str _) .nil), by show 1 ≤ 3; decide, fun c hc => by rw [List.mem_singleton.mp hc]; exact fits_str (by decide)⟩
    · rw [if_neg (by omega)]
      refine ⟨a3, _, rfl, .tup (k6 _ _ g36 (nT g36)) (.cons (.str _) (.cons (.str _) .nil)), by show 2 ≤ 3; decide, fun c hc => ?_⟩
      rcases List.mem_cons.mp hc with rfl | hc
      · exact fits_str (by decide)
      · rw [List.mem_singleton.mp hc]
        exact fz
  obtain ⟨a, d, ha, hd, hf⟩ := pick
  refine ⟨2, r2, rfl, p, _, _, _, rfl, rfl, SqL.of (k6 _ _ gp pT), ha, ?_⟩
  have kA : Keep T H H6 := (((kp1.trans (Keep.of s23)).trans k4).trans (Keep.of s56)).trans k6
  exact q H6 a d l hl0 (Int.le_refl _) ⟨t6.more (by omega), kA _ _ hw.f nF, hw.ne⟩ (Keep2.of kA) hd (fits_mono (Nat.le_refl _) (by omega) hf)
theorem no_say : FnOk P w K mg base CX0 11 f fd ["_law_tape_here", "_law_names", "_law_left", "_law_deep"] (spSay 0) := by
  have no : ∀ vs H Q E, ¬ spSay 0 vs H Q E := fun vs H Q E h => by
    obtain ⟨T, L, N, F, ws, l, B, k, _, h1, _⟩ := h
    omega
  exact ⟨fun vs H Q E h => absurd h (no vs H Q E), fun A outer s H args us vs Q E _ _ _ _ h => absurd h (no vs H Q E)⟩
theorem all_say (F0 : FnP K "_law_saying" sSay f fd) (GD : FnOk P w K mg base CX0 11 fD dD ["_law_tape_here", "_law_many"] (spDraw 11)) (T0 : Grow mg K fD f dD fd) :
    ∀ n : Nat, FnOk P w K mg base CX0 (11 + n) f fd ["_law_tape_here", "_law_names", "_law_left", "_law_deep"] (spSay n)
  | 0 => no_say
  | n + 1 => ok_say F0 GD (all_say F0 GD T0 n) T0
end
end My

set_option maxRecDepth 100000
set_option maxHeartbeats 4000000
namespace My
open PySem PySem.Spec PyProof.Rows L2
abbrev sOther : Stmt := top 18
theorem scOther : FnScope ["_law_tape_here", "_law_part", "_law_some", "_law_own"] ["_law_tape_here", "_law_part"] (defScope sOther) := ⟨rfl, rfl, rfl, by decide +kernel, rfl, by decide +kernel, by decide +kernel⟩
/-- all but dicts is as it was -/
def SeqK (H H' : Hp) : Prop := ∀ b o, H b = some o → (∀ m, o ≠ .dK m) → H' b = some o
theorem SeqK.of {H H' : Hp} (s : Same H H') : SeqK H H' := fun b o h _ => s b o h
theorem SeqK.trans {H H1 H2 : Hp} (a : SeqK H H1) (b : SeqK H1 H2) : SeqK H H2 := fun c o h n => b c o (a c o h n) n
theorem nT_of {H : Hp} {T L b : Addr} {B : Int} {xs : List V} (t : Tape H T L B) (h : H b = some (.lst xs)) : b ≠ T := fun z => by
  obtain ⟨ns, s, k, a, _⟩ := t
  rw [z, a.d] at h
  cases h
theorem seqK_keep {H H' : Hp} {T L : Addr} {B : Int} (t : Tape H T L B) (k : Keep T H H') : SeqK H H' := fun b o h n => by
  refine k b o h (fun z => ?_)
  obtain ⟨ns, s, l, a, _⟩ := t
  rw [z, a.d] at h
  exact n _ (Option.some.inj h).symm
theorem seqL {K : PySem.W.Frag} {H H' : Hp} {a : Addr} {xs : List V} (e : SeqK H H') (h : SqL K H a xs) : SqL K H' a xs := by
  rcases h with (h | ⟨o, h⟩) | h
  · exact .inl (.inl (e _ _ h (fun m z => by cases z)))
  · exact .inl (.inr ⟨o, e _ _ h (fun m z => by cases z)⟩)
  · exact .inr h
theorem seqT {K : PySem.W.Frag} {H H' : Hp} {a : Addr} {xs : List V} (e : SeqK H H') (h : SqT K H a xs) : SqT K H' a xs := by
  rcases h with (h | ⟨o, h⟩) | h
  · exact .inl (.inl (e _ _ h (fun m z => by cases z)))
  · exact .inl (.inr ⟨o, e _ _ h (fun m z => by cases z)⟩)
  · exact .inr h
mutual
theorem dp_seq {K : PySem.W.Frag} {H H' : Hp} (e : SeqK H H') : ∀ {v : V} {d : PyData}, Dp K H v d → Dp K H' v d
  | _, _, .non => .non
  | _, _, .bl b => .bl b
  | _, _, .int i => .int i
  | _, _, .str x => .str x
  | _, _, .lst h hs => .lst (seqL e h) (dp_seqAll e hs)
  | _, _, .tup h hs => .tup (seqT e h) (dp_seqAll e hs)
theorem dp_seqAll {K : PySem.W.Frag} {H H' : Hp} (e : SeqK H H') : ∀ {vs : List V} {ds : List PyData}, DpAll K H vs ds → DpAll K H' vs ds
  | _, _, .nil => .nil
  | _, _, .cons h hs => .cons (dp_seq e h) (dp_seqAll e hs)
end
/-! ### small things -/
def fitsB (w : Nat) : Nat → PyData → Bool
  | _, .none => true
  | _, .bool _ => true
  | _, .int _ => true
  | _, .str x => decide (x.length ≤ 1000)
  | _, .dict _ => false
  | 0, .tuple _ => false
  | 0, .list _ => false
  | n + 1, .tuple ds => decide (ds.length ≤ w) && ds.all (fitsB w n)
  | n + 1, .list ds => decide (ds.length ≤ w) && ds.all (fitsB w n)
theorem fits_of {w : Nat} : ∀ {n : Nat} {d : PyData}, fitsB w n d = true → Fits w n d := by
  intro n
  induction n with
  | zero =>
    intro d h
    cases d with
    | str x => exact of_decide_eq_true (p := x.length ≤ 1000) h
    | tuple _ => cases h
    | list _ => cases h
    | dict _ => cases h
    | _ => trivial
  | succ n ih =>
    intro d h
    cases d with
    | tuple ds =>
      have h' : (decide (ds.length ≤ w) && ds.all (fitsB w n)) = true := h
      rw [Bool.and_eq_true] at h'
      exact ⟨of_decide_eq_true h'.1, fun c hc => ih (List.all_eq_true.mp h'.2 c hc)⟩
    | list ds =>
      have h' : (decide (ds.length ≤ w) && ds.all (fitsB w n)) = true := h
      rw [Bool.and_eq_true] at h'
      exact ⟨of_decide_eq_true h'.1, fun c hc => ih (List.all_eq_true.mp h'.2 c hc)⟩
    | str x => exact of_decide_eq_true (p := x.length ≤ 1000) h
    | dict _ => cases h
    | _ => trivial
theorem barred_le : ∀ z ∈ barred, z.length ≤ 8 := by decide +kernel
theorem fits_own {o1 : Str} (h : o1 ∈ barred) : Fits 4 2 (.tuple [.str "name", .str o1]) := by
  refine ⟨by show 2 ≤ 4; decide, fun c hc => ?_⟩
  rcases List.mem_cons.mp hc with rfl | hc
  · exact fits_str (by decide)
  · rw [List.mem_singleton.mp hc]
    exact fits_str (Nat.le_trans (barred_le o1 h) (by decide))
def Gd (K : PySem.W.Frag) (H : Hp) (v : V) : Prop := ∃ d, Dp K H v d ∧ Fits 4 2 d
def GdAll (K : PySem.W.Frag) (H : Hp) (vs : List V) : Prop := ∀ v ∈ vs, Gd K H v
theorem gnil {K : PySem.W.Frag} {H : Hp} : GdAll K H [] := fun v h => by cases h
theorem gcons {K : PySem.W.Frag} {H : Hp} {v : V} {vs : List V} (a : Gd K H v) (b : GdAll K H vs) : GdAll K H (v :: vs) := fun u h => by
  rcases List.mem_cons.mp h with rfl | h
  · exact a
  · exact b u h
theorem gapp {K : PySem.W.Frag} {H : Hp} {vs us : List V} (a : GdAll K H vs) (b : GdAll K H us) : GdAll K H (vs ++ us) := fun u h => by
  rcases List.mem_append.mp h with h | h
  · exact a u h
  · exact b u h
theorem gseq {K : PySem.W.Frag} {H H' : Hp} {vs : List V} (e : SeqK H H') (a : GdAll K H vs) : GdAll K H' vs := fun u h => by
  obtain ⟨d, h1, h2⟩ := a u h
  exact ⟨d, dp_seq e h1, h2⟩
theorem gsame {K : PySem.W.Frag} {H H' : Hp} {vs : List V} (e : Same H H') (a : GdAll K H vs) : GdAll K H' vs := gseq (SeqK.of e) a
structure Less (mg : Str → Option Value) (K : PySem.W.Frag) (fD : Addr) (dD : FuncData) : Prop where
  gD : mg "_law_draw" = some (.ref fD)
  kD : PySem.W.keepIn K (.ref fD) = true
  bD : Binds K dD ["_law_tape_here", "_law_many"] []
  ml : mg "len" = none
def spOther (K : PySem.W.Frag) : Sp := fun vs H Q _ => ∃ (T L : Addr) (v : V) (B : Int), vs = [.ref T, v] ∧ B + 100 ≤ 1000000 ∧ Tape H T L B ∧
  ∀ (H' : Hp) (u : V), Tape H' T L (B + 22) → Keep T H H' → Gd K H' u → Q u H'
section
variable {P : Program} {w : World} {K : PySem.W.Frag} {mg : Str → Option Value} {base : Heap} {f fD : Addr} {fd dD : FuncData}
theorem ok_other (F0 : FnP K "_law_other" sOther f fd) (GD : FnOk P w K mg base CX0 11 fD dD ["_law_tape_here", "_law_many"] (spDraw 11)) (T0 : Less mg K fD dD) :
    FnOk P w K mg base CX0 12 f fd ["_law_tape_here", "_law_part"] (spOther K) := by
  refine F0.ok scOther (fun vs H Q E h => ?_) (fun cdv A outer s H vs Q E hr h => ?_)
  · obtain ⟨T, L, v, B, rfl, _⟩ := h
    rfl
  obtain ⟨T, L, v, B, rfl, hB, hT, q⟩ := h
  have hr11 : Room 11 _ := hr.mono (by omega)
  refine ⟨_, PSs.nox (pss_cons (ps_set (i := 2) scOther.nd rfl (Or.inl rfl) (pe_lst (pa_cons pe_str (pa_cons pe_str (pa_cons pe_str (pa_cons pe_str (pa_cons pe_str (pa_cons pe_str (pa_cons pe_str (pa_cons pe_str (pa_cons pe_str (pa_cons pe_str (pa_cons pe_int (pa_cons pe_int (pa_cons pe_bl (pa_cons pe_non (pa_cons (pe_tup pa_nil) (pa_cons (pe_tup (pa_cons pe_str pa_nil)) pa_nil))))))))))))))))))
 (pss_cons (ps_set (i := 2) scOther.nd rfl (Or.inl rfl) (pe_op op_cat (pv 2) (pe_lst (pa_cons (pe_lst (pa_cons pe_str pa_nil)) (pa_cons (pe_tup (pa_cons pe_str (pa_cons pe_int pa_nil))) (pa_cons (pe_tup (pa_cons pe_str (pa_cons pe_str pa_nil))) (pa_cons (pe_tup (pa_cons pe_str (pa_cons pe_str pa_nil))) (pa_cons (pe_tup (pa_cons pe_str (pa_cons pe_str (pa_cons pe_str pa_nil)))) (pa_cons (pe_tup (pa_cons pe_str pa_nil)) (pa_cons (pe_tup (pa_cons pe_str pa_nil)) pa_nil))))))))))
 (pss_cons (ps_set (i := 3) scOther.nd rfl (Or.inl rfl) (pe_ix ix_list (pe_lst (pa_cons pe_str (pa_cons pe_str (pa_cons pe_str (pa_cons pe_str (pa_cons pe_str (pa_cons pe_str (pa_cons pe_str pa_nil)))))))) (pe_call GD hr11 (by rfl) T0.gD T0.kD T0.bD .nil pass0 (pa_cons (pv 0) (pa_cons pe_int pa_nil))) (fun _ _ => rfl)))
 (pss_cons (ps_set (i := 2) scOther.nd rfl (Or.inl rfl) (pe_op op_cat (pv 2) (pe_lst (pa_cons (pe_tup (pa_cons pe_str (pa_cons pe_int pa_nil))) (pa_cons (pe_tup (pa_cons pe_str (pa_cons (pv 3) pa_nil))) (pa_cons (pe_tup (pa_cons pe_str (pa_cons pe_str pa_nil))) pa_nil))))))
 (pss_cons (ps_set (i := 2) scOther.nd rfl (Or.inl rfl) (pe_op op_cat (pv 2) (pe_lst (pa_cons (pe_tup (pa_cons pe_str (pa_cons (pe_tup (pa_cons pe_str pa_nil)) pa_nil))) (pa_cons (pe_tup (pa_cons pe_str (pa_cons (pe_tup (pa_cons pe_str pa_nil)) (pa_cons (pe_tup (pa_cons pe_str pa_nil)) (pa_cons (pe_tup (pa_cons pe_str pa_nil)) pa_nil))))) (pa_cons (pe_tup (pa_cons pe_str (pa_cons (pe_tup (pa_cons pe_str (pa_cons pe_str pa_nil))) pa_nil))) (pa_cons (pe_tup (pa_cons (pe_tup (pa_cons pe_str pa_nil)) pa_nil)) (pa_cons pe_str pa_nil))))))))
 (pss_one (ps_ret (pe_ix ix_list (pv 2) (pe_call GD hr11 (by rfl) T0.gD T0.kD T0.bD .nil pass0 (pa_cons (pv 0) (pa_cons (pe_callB call_len_seq (by rfl) T0.ml PySem.boot_len (pa_cons (pv 2) pa_nil)) pa_nil))) (fun _ _ => rfl))))))))), ?_⟩
  have kp : Keep T H H := Keep.refl
  refine ⟨Nat.zero_le _, fun p1 n1 => ?_⟩
  have s1 := same_new n1 (.tup [])
  have d1 : Dp K (upd H p1 (.tup [])) (.ref p1) (.tuple []) := .tup (.inl (.inl upd_same)) (dp_sameAll s1 .nil)
  replace hT := hT.same s1
  replace kp := kp.trans (Keep.of s1)
  generalize upd H p1 (.tup []) = H1 at s1 hT kp d1 ⊢
  refine ⟨(by show 1 ≤ sizeLine; decide), fun p2 n2 => ?_⟩
  have s2 := same_new n2 (.tup [.str "yes"])
  have d2 : Dp K (upd H1 p2 (.tup [.str "yes"])) (.ref p2) (.tuple [.str "yes"]) := .tup (.inl (.inl upd_same)) (dp_sameAll s2 (.cons (.str _) .nil))
  replace hT := hT.same s2
  replace kp := kp.trans (Keep.of s2)
  replace d1 := dp_same s2 d1
  generalize upd H1 p2 (.tup [.str "yes"]) = H2 at s2 hT kp d1 d2 ⊢
  have g3 : GdAll K H2 [.str "yes", .str "not", .str "gives", .str "names", .str "", .str "ab", .str "Ab", .str "abcdefghi", .str "a1", .str "not ", .int 7, .int 0, .bl true, .non, .ref p1, .ref p2] := (gcons ⟨.str "yes", (.str _), (fits_of (by decide +kernel))⟩ (gcons ⟨.str "not", (.str _), (fits_of (by decide +kernel))⟩ (gcons ⟨.str "gives", (.str _), (fits_of (by decide +kernel))⟩ (gcons ⟨.str "names", (.str _), (fits_of (by decide +kernel))⟩ (gcons ⟨.str "", (.str _), (fits_of (by decide +kernel))⟩ (gcons ⟨.str "ab", (.str _), (fits_of (by decide +kernel))⟩ (gcons ⟨.str "Ab", (.str _), (fits_of (by decide +kernel))⟩ (gcons ⟨.str "abcdefghi", (.str _), (fits_of (by decide +kernel))⟩ (gcons ⟨.str "a1", (.str _), (fits_of (by decide +kernel))⟩ (gcons ⟨.str "not ", (.str _), (fits_of (by decide +kernel))⟩ (gcons ⟨.int 7, (.int _), (fits_of (by decide +kernel))⟩ (gcons ⟨.int 0, (.int _), (fits_of (by decide +kernel))⟩ (gcons ⟨.bool true, (.bl _), (fits_of (by decide +kernel))⟩ (gcons ⟨.none, .non, (fits_of (by decide +kernel))⟩ (gcons ⟨.tuple [], d1, (fits_of (by decide +kernel))⟩ (gcons ⟨.tuple [.str "yes"], d2, (fits_of (by decide +kernel))⟩ gnil))))))))))))))))
  refine ⟨(by show 16 ≤ sizeLine; decide), fun p3 n3 => ?_⟩
  have s3 := same_new n3 (.lst [.str "yes", .str "not", .str "gives", .str "names", .str "", .str "ab", .str "Ab", .str "abcdefghi", .str "a1", .str "not ", .int 7, .int 0, .bl true, .non, .ref p1, .ref p2])
  replace hT := hT.same s3
  replace kp := kp.trans (Keep.of s3)
  replace g3 := gsame s3 g3
  obtain ⟨x3, e3, l3, g3⟩ : ∃ x3, (upd H2 p3 (.lst [.str "yes", .str "not", .str "gives", .str "names", .str "", .str "ab", .str "Ab", .str "abcdefghi", .str "a1", .str "not ", .int 7, .int 0, .bl true, .non, .ref p1, .ref p2])) p3 = some (.lst x3) ∧ x3.length = 16 ∧ GdAll K (upd H2 p3 (.lst [.str "yes", .str "not", .str "gives", .str "names", .str "", .str "ab", .str "Ab", .str "abcdefghi", .str "a1", .str "not ", .int 7, .int 0, .bl true, .non, .ref p1, .ref p2])) x3 := ⟨_, upd_same, rfl, g3⟩
  generalize upd H2 p3 (.lst [.str "yes", .str "not", .str "gives", .str "names", .str "", .str "ab", .str "Ab", .str "abcdefghi", .str "a1", .str "not ", .int 7, .int 0, .bl true, .non, .ref p1, .ref p2]) = H3 at s3 hT kp g3 e3 ⊢
  refine ⟨_, rfl, ?_⟩
  refine ⟨(by show 1 ≤ sizeLine; decide), fun p4 n4 => ?_⟩
  have s4 := same_new n4 (.lst [.str "no"])
  have d4 : Dp K (upd H3 p4 (.lst [.str "no"])) (.ref p4) (.list [.str "no"]) := .lst (.inl (.inl upd_same)) (dp_sameAll s4 (.cons (.str _) .nil))
  replace hT := hT.same s4
  replace kp := kp.trans (Keep.of s4)
  replace g3 := gsame s4 g3
  replace e3 := s4 _ _ e3
  generalize upd H3 p4 (.lst [.str "no"]) = H4 at s4 hT kp g3 e3 d4 ⊢
  refine ⟨(by show 2 ≤ sizeLine; decide), fun p5 n5 => ?_⟩
  have s5 := same_new n5 (.tup [.str "no", .int 1])
  have d5 : Dp K (upd H4 p5 (.tup [.str "no", .int 1])) (.ref p5) (.tuple [.str "no", .int 1]) := .tup (.inl (.inl upd_same)) (dp_sameAll s5 (.cons (.str _) (.cons (.int _) .nil)))
  replace hT := hT.same s5
  replace kp := kp.trans (Keep.of s5)
  replace g3 := gsame s5 g3
  replace e3 := s5 _ _ e3
  replace d4 := dp_same s5 d4
  generalize upd H4 p5 (.tup [.str "no", .int 1]) = H5 at s5 hT kp g3 e3 d4 d5 ⊢
  refine ⟨(by show 2 ≤ sizeLine; decide), fun p6 n6 => ?_⟩
  have s6 := same_new n6 (.tup [.str "name", .str "is"])
  have d6 : Dp K (upd H5 p6 (.tup [.str "name", .str "is"])) (.ref p6) (.tuple [.str "name", .str "is"]) := .tup (.inl (.inl upd_same)) (dp_sameAll s6 (.cons (.str _) (.cons (.str _) .nil)))
  replace hT := hT.same s6
  replace kp := kp.trans (Keep.of s6)
  replace g3 := gsame s6 g3
  replace e3 := s6 _ _ e3
  replace d4 := dp_same s6 d4
  replace d5 := dp_same s6 d5
  generalize upd H5 p6 (.tup [.str "name", .str "is"]) = H6 at s6 hT kp g3 e3 d4 d5 d6 ⊢
  refine ⟨(by show 2 ≤ sizeLine; decide), fun p7 n7 => ?_⟩
  have s7 := same_new n7 (.tup [.str "name", .str "and"])
  have d7 : Dp K (upd H6 p7 (.tup [.str "name", .str "and"])) (.ref p7) (.tuple [.str "name", .str "and"]) := .tup (.inl (.inl upd_same)) (dp_sameAll s7 (.cons (.str _) (.cons (.str _) .nil)))
  replace hT := hT.same s7
  replace kp := kp.trans (Keep.of s7)
  replace g3 := gsame s7 g3
  replace e3 := s7 _ _ e3
  replace d4 := dp_same s7 d4
  replace d5 := dp_same s7 d5
  replace d6 := dp_same s7 d6
  generalize upd H6 p7 (.tup [.str "name", .str "and"]) = H7 at s7 hT kp g3 e3 d4 d5 d6 d7 ⊢
  refine ⟨(by show 3 ≤ sizeLine; decide), fun p8 n8 => ?_⟩
  have s8 := same_new n8 (.tup [.str "name", .str "x", .str "y"])
  have d8 : Dp K (upd H7 p8 (.tup [.str "name", .str "x", .str "y"])) (.ref p8) (.tuple [.str "name", .str "x", .str "y"]) := .tup (.inl (.inl upd_same)) (dp_sameAll s8 (.cons (.str _) (.cons (.str _) (.cons (.str _) .nil))))
  replace hT := hT.same s8
  replace kp := kp.trans (Keep.of s8)
  replace g3 := gsame s8 g3
  replace e3 := s8 _ _ e3
  replace d4 := dp_same s8 d4
  replace d5 := dp_same s8 d5
  replace d6 := dp_same s8 d6
  replace d7 := dp_same s8 d7
  generalize upd H7 p8 (.tup [.str "name", .str "x", .str "y"]) = H8 at s8 hT kp g3 e3 d4 d5 d6 d7 d8 ⊢
  refine ⟨(by show 1 ≤ sizeLine; decide), fun p9 n9 => ?_⟩
  have s9 := same_new n9 (.tup [.str "name"])
  have d9 : Dp K (upd H8 p9 (.tup [.str "name"])) (.ref p9) (.tuple [.str "name"]) := .tup (.inl (.inl upd_same)) (dp_sameAll s9 (.cons (.str _) .nil))
  replace hT := hT.same s9
  replace kp := kp.trans (Keep.of s9)
  replace g3 := gsame s9 g3
  replace e3 := s9 _ _ e3
  replace d4 := dp_same s9 d4
  replace d5 := dp_same s9 d5
  replace d6 := dp_same s9 d6
  replace d7 := dp_same s9 d7
  replace d8 := dp_same s9 d8
  generalize upd H8 p9 (.tup [.str "name"]) = H9 at s9 hT kp g3 e3 d4 d5 d6 d7 d8 d9 ⊢
  refine ⟨(by show 1 ≤ sizeLine; decide), fun p10 n10 => ?_⟩
  have s10 := same_new n10 (.tup [.str "not"])
  have d10 : Dp K (upd H9 p10 (.tup [.str "not"])) (.ref p10) (.tuple [.str "not"]) := .tup (.inl (.inl upd_same)) (dp_sameAll s10 (.cons (.str _) .nil))
  replace hT := hT.same s10
  replace kp := kp.trans (Keep.of s10)
  replace g3 := gsame s10 g3
  replace e3 := s10 _ _ e3
  replace d4 := dp_same s10 d4
  replace d5 := dp_same s10 d5
  replace d6 := dp_same s10 d6
  replace d7 := dp_same s10 d7
  replace d8 := dp_same s10 d8
  replace d9 := dp_same s10 d9
  generalize upd H9 p10 (.tup [.str "not"]) = H10 at s10 hT kp g3 e3 d4 d5 d6 d7 d8 d9 d10 ⊢
  have g11 : GdAll K H10 [.ref p4, .ref p5, .ref p6, .ref p7, .ref p8, .ref p9, .ref p10] := (gcons ⟨.list [.str "no"], d4, (fits_of (by decide +kernel))⟩ (gcons ⟨.tuple [.str "no", .int 1], d5, (fits_of (by decide +kernel))⟩ (gcons ⟨.tuple [.str "name", .str "is"], d6, (fits_of (by decide +kernel))⟩ (gcons ⟨.tuple [.str "name", .str "and"], d7, (fits_of (by decide +kernel))⟩ (gcons ⟨.tuple [.str "name", .str "x", .str "y"], d8, (fits_of (by decide +kernel))⟩ (gcons ⟨.tuple [.str "name"], d9, (fits_of (by decide +kernel))⟩ (gcons ⟨.tuple [.str "not"], d10, (fits_of (by decide +kernel))⟩ gnil)))))))
  refine ⟨(by show 7 ≤ sizeLine; decide), fun p11 n11 => ?_⟩
  have s11 := same_new n11 (.lst [.ref p4, .ref p5, .ref p6, .ref p7, .ref p8, .ref p9, .ref p10])
  replace hT := hT.same s11
  replace kp := kp.trans (Keep.of s11)
  replace g3 := gsame s11 g3
  replace e3 := s11 _ _ e3
  replace g11 := gsame s11 g11
  obtain ⟨x11, e11, l11, g11⟩ : ∃ x11, (upd H10 p11 (.lst [.ref p4, .ref p5, .ref p6, .ref p7, .ref p8, .ref p9, .ref p10])) p11 = some (.lst x11) ∧ x11.length = 7 ∧ GdAll K (upd H10 p11 (.lst [.ref p4, .ref p5, .ref p6, .ref p7, .ref p8, .ref p9, .ref p10])) x11 := ⟨_, upd_same, rfl, g11⟩
  generalize upd H10 p11 (.lst [.ref p4, .ref p5, .ref p6, .ref p7, .ref p8, .ref p9, .ref p10]) = H11 at s11 hT kp g3 e3 g11 e11 ⊢
  refine ⟨p3, p11, _, _, rfl, rfl, e3, e11, small (by rw [l3, l11]; decide), fun p12 n12 => ?_⟩
  have s12 := same_new n12 (.lst (x3 ++ x11))
  have g12 := gapp g3 g11
  replace hT := hT.same s12
  replace kp := kp.trans (Keep.of s12)
  replace g12 := gsame s12 g12
  obtain ⟨x12, e12, l12, g12⟩ : ∃ x12, (upd H11 p12 (.lst (x3 ++ x11))) p12 = some (.lst x12) ∧ x12.length = 23 ∧ GdAll K (upd H11 p12 (.lst (x3 ++ x11))) x12 := ⟨_, upd_same, by rw [List.length_append, l3, l11], g12⟩
  generalize upd H11 p12 (.lst (x3 ++ x11)) = H12 at s12 hT kp g12 e12 ⊢
  refine ⟨(by show 7 ≤ sizeLine; decide), fun p13 n13 => ?_⟩
  have s13 := same_new n13 (.lst [.str "not", .str "and", .str "or", .str "gives", .str "is", .str "yes", .str "no"])
  replace hT := hT.same s13
  replace kp := kp.trans (Keep.of s13)
  replace g12 := gsame s13 g12
  replace e12 := s13 _ _ e12
  have eo : (upd H12 p13 (.lst [.str "not", .str "and", .str "or", .str "gives", .str "is", .str "yes", .str "no"])) p13 = some (.lst (barred.map V.str)) := upd_same
  generalize upd H12 p13 (.lst [.str "not", .str "and", .str "or", .str "gives", .str "is", .str "yes", .str "no"]) = H13 at s13 hT kp g12 e12 eo ⊢
  refine ⟨_, rfl, T, L, 7, B, rfl, by decide, by decide, by omega, hT, fun Hd r r0 r1 tD kD => ?_⟩
  have eo1 := kD _ _ eo (nT_of hT eo)
  obtain ⟨vo, ho1, ho2⟩ := at_in (xs := barred.map V.str) r0 r1
  obtain ⟨o1, ho3, rfl⟩ := List.mem_map.mp ho1
  refine ⟨p13, _, _, _, rfl, rfl, SqL.of eo1, ho2, ?_⟩
  replace e12 := kD _ _ e12 (nT_of hT e12)
  replace g12 := gseq (seqK_keep hT kD) g12
  replace kp := kp.trans kD
  replace hT := tD
  refine ⟨_, rfl, ?_⟩
  refine ⟨(by show 2 ≤ sizeLine; decide), fun p14 n14 => ?_⟩
  have s14 := same_new n14 (.tup [.str "name", .int 7])
  have d14 : Dp K (upd Hd p14 (.tup [.str "name", .int 7])) (.ref p14) (.tuple [.str "name", .int 7]) := .tup (.inl (.inl upd_same)) (dp_sameAll s14 (.cons (.str _) (.cons (.int _) .nil)))
  replace hT := hT.same s14
  replace kp := kp.trans (Keep.of s14)
  replace g12 := gsame s14 g12
  replace e12 := s14 _ _ e12
  generalize upd Hd p14 (.tup [.str "name", .int 7]) = H14 at s14 hT kp g12 e12 d14 ⊢
  refine ⟨_, rfl, (by show 2 ≤ sizeLine; decide), fun p15 n15 => ?_⟩
  have s15 := same_new n15 (.tup [.str "name", .str o1])
  have d15 : Dp K (upd H14 p15 (.tup [.str "name", .str o1])) (.ref p15) (.tuple [.str "name", .str o1]) := .tup (.inl (.inl upd_same)) (dp_sameAll s15 (.cons (.str _) (.cons (.str _) .nil)))
  replace hT := hT.same s15
  replace kp := kp.trans (Keep.of s15)
  replace g12 := gsame s15 g12
  replace e12 := s15 _ _ e12
  replace d14 := dp_same s15 d14
  generalize upd H14 p15 (.tup [.str "name", .str o1]) = H15 at s15 hT kp g12 e12 d14 d15 ⊢
  refine ⟨(by show 2 ≤ sizeLine; decide), fun p16 n16 => ?_⟩
  have s16 := same_new n16 (.tup [.str "name", .str "ab\n"])
  have d16 : Dp K (upd H15 p16 (.tup [.str "name", .str "ab\n"])) (.ref p16) (.tuple [.str "name", .str "ab\n"]) := .tup (.inl (.inl upd_same)) (dp_sameAll s16 (.cons (.str _) (.cons (.str _) .nil)))
  replace hT := hT.same s16
  replace kp := kp.trans (Keep.of s16)
  replace g12 := gsame s16 g12
  replace e12 := s16 _ _ e12
  replace d14 := dp_same s16 d14
  replace d15 := dp_same s16 d15
  generalize upd H15 p16 (.tup [.str "name", .str "ab\n"]) = H16 at s16 hT kp g12 e12 d14 d15 d16 ⊢
  have g17 : GdAll K H16 [.ref p14, .ref p15, .ref p16] := (gcons ⟨.tuple [.str "name", .int 7], d14, (fits_of (by decide +kernel))⟩ (gcons ⟨.tuple [.str "name", .str o1], d15, (fits_own ho3)⟩ (gcons ⟨.tuple [.str "name", .str "ab\n"], d16, (fits_of (by decide +kernel))⟩ gnil)))
  refine ⟨(by show 3 ≤ sizeLine; decide), fun p17 n17 => ?_⟩
  have s17 := same_new n17 (.lst [.ref p14, .ref p15, .ref p16])
  replace hT := hT.same s17
  replace kp := kp.trans (Keep.of s17)
  replace g12 := gsame s17 g12
  replace e12 := s17 _ _ e12
  replace g17 := gsame s17 g17
  obtain ⟨x17, e17, l17, g17⟩ : ∃ x17, (upd H16 p17 (.lst [.ref p14, .ref p15, .ref p16])) p17 = some (.lst x17) ∧ x17.length = 3 ∧ GdAll K (upd H16 p17 (.lst [.ref p14, .ref p15, .ref p16])) x17 := ⟨_, upd_same, rfl, g17⟩
  generalize upd H16 p17 (.lst [.ref p14, .ref p15, .ref p16]) = H17 at s17 hT kp g12 e12 g17 e17 ⊢
  refine ⟨p12, p17, _, _, rfl, rfl, e12, e17, small (by rw [l12, l17]; decide), fun p18 n18 => ?_⟩
  have s18 := same_new n18 (.lst (x12 ++ x17))
  have g18 := gapp g12 g17
  replace hT := hT.same s18
  replace kp := kp.trans (Keep.of s18)
  replace g18 := gsame s18 g18
  obtain ⟨x18, e18, l18, g18⟩ : ∃ x18, (upd H17 p18 (.lst (x12 ++ x17))) p18 = some (.lst x18) ∧ x18.length = 26 ∧ GdAll K (upd H17 p18 (.lst (x12 ++ x17))) x18 := ⟨_, upd_same, by rw [List.length_append, l12, l17], g18⟩
  generalize upd H17 p18 (.lst (x12 ++ x17)) = H18 at s18 hT kp g18 e18 ⊢
  refine ⟨_, rfl, ?_⟩
  refine ⟨(by show 1 ≤ sizeLine; decide), fun p19 n19 => ?_⟩
  have s19 := same_new n19 (.tup [.str "yes"])
  have d19 : Dp K (upd H18 p19 (.tup [.str "yes"])) (.ref p19) (.tuple [.str "yes"]) := .tup (.inl (.inl upd_same)) (dp_sameAll s19 (.cons (.str _) .nil))
  replace hT := hT.same s19
  replace kp := kp.trans (Keep.of s19)
  replace g18 := gsame s19 g18
  replace e18 := s19 _ _ e18
  generalize upd H18 p19 (.tup [.str "yes"]) = H19 at s19 hT kp g18 e18 d19 ⊢
  refine ⟨(by show 2 ≤ sizeLine; decide), fun p20 n20 => ?_⟩
  have s20 := same_new n20 (.tup [.str "and", .ref p19])
  have d20 : Dp K (upd H19 p20 (.tup [.str "and", .ref p19])) (.ref p20) (.tuple [.str "and", .tuple [.str "yes"]]) := .tup (.inl (.inl upd_same)) (dp_sameAll s20 (.cons (.str _) (.cons d19 .nil)))
  replace hT := hT.same s20
  replace kp := kp.trans (Keep.of s20)
  replace g18 := gsame s20 g18
  replace e18 := s20 _ _ e18
  generalize upd H19 p20 (.tup [.str "and", .ref p19]) = H20 at s20 hT kp g18 e18 d20 ⊢
  refine ⟨(by show 1 ≤ sizeLine; decide), fun p21 n21 => ?_⟩
  have s21 := same_new n21 (.tup [.str "yes"])
  have d21 : Dp K (upd H20 p21 (.tup [.str "yes"])) (.ref p21) (.tuple [.str "yes"]) := .tup (.inl (.inl upd_same)) (dp_sameAll s21 (.cons (.str _) .nil))
  replace hT := hT.same s21
  replace kp := kp.trans (Keep.of s21)
  replace g18 := gsame s21 g18
  replace e18 := s21 _ _ e18
  replace d20 := dp_same s21 d20
  generalize upd H20 p21 (.tup [.str "yes"]) = H21 at s21 hT kp g18 e18 d20 d21 ⊢
  refine ⟨(by show 1 ≤ sizeLine; decide), fun p22 n22 => ?_⟩
  have s22 := same_new n22 (.tup [.str "no"])
  have d22 : Dp K (upd H21 p22 (.tup [.str "no"])) (.ref p22) (.tuple [.str "no"]) := .tup (.inl (.inl upd_same)) (dp_sameAll s22 (.cons (.str _) .nil))
  replace hT := hT.same s22
  replace kp := kp.trans (Keep.of s22)
  replace g18 := gsame s22 g18
  replace e18 := s22 _ _ e18
  replace d20 := dp_same s22 d20
  replace d21 := dp_same s22 d21
  generalize upd H21 p22 (.tup [.str "no"]) = H22 at s22 hT kp g18 e18 d20 d21 d22 ⊢
  refine ⟨(by show 1 ≤ sizeLine; decide), fun p23 n23 => ?_⟩
  have s23 := same_new n23 (.tup [.str "no"])
  have d23 : Dp K (upd H22 p23 (.tup [.str "no"])) (.ref p23) (.tuple [.str "no"]) := .tup (.inl (.inl upd_same)) (dp_sameAll s23 (.cons (.str _) .nil))
  replace hT := hT.same s23
  replace kp := kp.trans (Keep.of s23)
  replace g18 := gsame s23 g18
  replace e18 := s23 _ _ e18
  replace d20 := dp_same s23 d20
  replace d21 := dp_same s23 d21
  replace d22 := dp_same s23 d22
  generalize upd H22 p23 (.tup [.str "no"]) = H23 at s23 hT kp g18 e18 d20 d21 d22 d23 ⊢
  refine ⟨(by show 4 ≤ sizeLine; decide), fun p24 n24 => ?_⟩
  have s24 := same_new n24 (.tup [.str "or", .ref p21, .ref p22, .ref p23])
  have d24 : Dp K (upd H23 p24 (.tup [.str "or", .ref p21, .ref p22, .ref p23])) (.ref p24) (.tuple [.str "or", .tuple [.str "yes"], .tuple [.str "no"], .tuple [.str "no"]]) := .tup (.inl (.inl upd_same)) (dp_sameAll s24 (.cons (.str _) (.cons d21 (.cons d22 (.cons d23 .nil)))))
  replace hT := hT.same s24
  replace kp := kp.trans (Keep.of s24)
  replace g18 := gsame s24 g18
  replace e18 := s24 _ _ e18
  replace d20 := dp_same s24 d20
  generalize upd H23 p24 (.tup [.str "or", .ref p21, .ref p22, .ref p23]) = H24 at s24 hT kp g18 e18 d20 d24 ⊢
  refine ⟨(by show 2 ≤ sizeLine; decide), fun p25 n25 => ?_⟩
  have s25 := same_new n25 (.tup [.str "name", .str "a"])
  have d25 : Dp K (upd H24 p25 (.tup [.str "name", .str "a"])) (.ref p25) (.tuple [.str "name", .str "a"]) := .tup (.inl (.inl upd_same)) (dp_sameAll s25 (.cons (.str _) (.cons (.str _) .nil)))
  replace hT := hT.same s25
  replace kp := kp.trans (Keep.of s25)
  replace g18 := gsame s25 g18
  replace e18 := s25 _ _ e18
  replace d20 := dp_same s25 d20
  replace d24 := dp_same s25 d24
  generalize upd H24 p25 (.tup [.str "name", .str "a"]) = H25 at s25 hT kp g18 e18 d20 d24 d25 ⊢
  refine ⟨(by show 2 ≤ sizeLine; decide), fun p26 n26 => ?_⟩
  have s26 := same_new n26 (.tup [.str "name", .ref p25])
  have d26 : Dp K (upd H25 p26 (.tup [.str "name", .ref p25])) (.ref p26) (.tuple [.str "name", .tuple [.str "name", .str "a"]]) := .tup (.inl (.inl upd_same)) (dp_sameAll s26 (.cons (.str _) (.cons d25 .nil)))
  replace hT := hT.same s26
  replace kp := kp.trans (Keep.of s26)
  replace g18 := gsame s26 g18
  replace e18 := s26 _ _ e18
  replace d20 := dp_same s26 d20
  replace d24 := dp_same s26 d24
  generalize upd H25 p26 (.tup [.str "name", .ref p25]) = H26 at s26 hT kp g18 e18 d20 d24 d26 ⊢
  refine ⟨(by show 1 ≤ sizeLine; decide), fun p27 n27 => ?_⟩
  have s27 := same_new n27 (.tup [.str "yes"])
  have d27 : Dp K (upd H26 p27 (.tup [.str "yes"])) (.ref p27) (.tuple [.str "yes"]) := .tup (.inl (.inl upd_same)) (dp_sameAll s27 (.cons (.str _) .nil))
  replace hT := hT.same s27
  replace kp := kp.trans (Keep.of s27)
  replace g18 := gsame s27 g18
  replace e18 := s27 _ _ e18
  replace d20 := dp_same s27 d20
  replace d24 := dp_same s27 d24
  replace d26 := dp_same s27 d26
  generalize upd H26 p27 (.tup [.str "yes"]) = H27 at s27 hT kp g18 e18 d20 d24 d26 d27 ⊢
  refine ⟨(by show 1 ≤ sizeLine; decide), fun p28 n28 => ?_⟩
  have s28 := same_new n28 (.tup [.ref p27])
  have d28 : Dp K (upd H27 p28 (.tup [.ref p27])) (.ref p28) (.tuple [.tuple [.str "yes"]]) := .tup (.inl (.inl upd_same)) (dp_sameAll s28 (.cons d27 .nil))
  replace hT := hT.same s28
  replace kp := kp.trans (Keep.of s28)
  replace g18 := gsame s28 g18
  replace e18 := s28 _ _ e18
  replace d20 := dp_same s28 d20
  replace d24 := dp_same s28 d24
  replace d26 := dp_same s28 d26
  generalize upd H27 p28 (.tup [.ref p27]) = H28 at s28 hT kp g18 e18 d20 d24 d26 d28 ⊢
  have g29 : GdAll K H28 [.ref p20, .ref p24, .ref p26, .ref p28, .str "name"] := (gcons ⟨.tuple [.str "and", .tuple [.str "yes"]], d20, (fits_of (by decide +kernel))⟩ (gcons ⟨.tuple [.str "or", .tuple [.str "yes"], .tuple [.str "no"], .tuple [.str "no"]], d24, (fits_of (by decide +kernel))⟩ (gcons ⟨.tuple [.str "name", .tuple [.str "name", .str "a"]], d26, (fits_of (by decide +kernel))⟩ (gcons ⟨.tuple [.tuple [.str "yes"]], d28, (fits_of (by decide +kernel))⟩ (gcons ⟨.str "name", (.str _), (fits_of (by decide +kernel))⟩ gnil)))))
  refine ⟨(by show 5 ≤ sizeLine; decide), fun p29 n29 => ?_⟩
  have s29 := same_new n29 (.lst [.ref p20, .ref p24, .ref p26, .ref p28, .str "name"])
  replace hT := hT.same s29
  replace kp := kp.trans (Keep.of s29)
  replace g18 := gsame s29 g18
  replace e18 := s29 _ _ e18
  replace g29 := gsame s29 g29
  obtain ⟨x29, e29, l29, g29⟩ : ∃ x29, (upd H28 p29 (.lst [.ref p20, .ref p24, .ref p26, .ref p28, .str "name"])) p29 = some (.lst x29) ∧ x29.length = 5 ∧ GdAll K (upd H28 p29 (.lst [.ref p20, .ref p24, .ref p26, .ref p28, .str "name"])) x29 := ⟨_, upd_same, rfl, g29⟩
  generalize upd H28 p29 (.lst [.ref p20, .ref p24, .ref p26, .ref p28, .str "name"]) = H29 at s29 hT kp g18 e18 g29 e29 ⊢
  refine ⟨p18, p29, _, _, rfl, rfl, e18, e29, small (by rw [l18, l29]; decide), fun p30 n30 => ?_⟩
  have s30 := same_new n30 (.lst (x18 ++ x29))
  have g30 := gapp g18 g29
  replace hT := hT.same s30
  replace kp := kp.trans (Keep.of s30)
  replace g30 := gsame s30 g30
  obtain ⟨x30, e30, l30, g30⟩ : ∃ x30, (upd H29 p30 (.lst (x18 ++ x29))) p30 = some (.lst x30) ∧ x30.length = 31 ∧ GdAll K (upd H29 p30 (.lst (x18 ++ x29))) x30 := ⟨_, upd_same, by rw [List.length_append, l18, l29], g30⟩
  generalize upd H29 p30 (.lst (x18 ++ x29)) = H30 at s30 hT kp g30 e30 ⊢
  have hl : ((x30.length : Nat) : Int) = 31 := by rw [l30]; rfl
  refine ⟨_, rfl, _, rfl, _, rfl, p30, _, rfl, .inl (SqL.of e30), T, L, _, B + 11, rfl, by rw [hl]; decide, by rw [hl]; decide, by omega, hT, fun He r2 r20 r21 tE kE => ?_⟩
  obtain ⟨v2, hv1, hv2⟩ := at_in (xs := x30) r20 r21
  refine ⟨p30, _, _, _, rfl, rfl, SqL.of (kE _ _ e30 (nT_of hT e30)), hv2, ?_⟩
  exact q He v2 (tE.more (by omega)) (kp.trans kE) (gseq (seqK_keep hT kE) g30 v2 hv1)
end
end My

set_option maxRecDepth 100000
set_option maxHeartbeats 4000000
namespace My
open PySem PySem.Spec PyProof.Rows L2
abbrev sBent : Stmt := top 19
theorem scBent : FnScope ["_law_tape_here", "_law_thing", "_law_at", "_law_shapes"] ["_law_tape_here", "_law_thing"] (defScope sBent) := ⟨rfl, rfl, rfl, by decide +kernel, rfl, by decide +kernel, by decide +kernel⟩
theorem slA_any {K : PySem.W.Frag} {H : Hp} {x : V} {a : Addr} {xs : List V} {lo hi : Option Int} {Q : VK} (e : x = .ref a) (h : SqT K H a xs)
    (q : ∀ p H', Same H H' → SqT K H' p (cutV xs lo hi) → Q (.ref p) H') : rSlA K x lo hi H Q := by
  refine ⟨a, xs, e, h, fun z => q a H (Same.refl _) ?_, fun _ p np => q p _ (same_new np _) (.inl (.inl upd_same))⟩
  unfold cutV
  rw [z.1, z.2, List.drop_zero, Nat.sub_zero, List.take_length]
  exact h
theorem catA_any {K : PySem.W.Frag} {H : Hp} {x y : V} {a b : Addr} {xs ys : List V} {Q : VK} (ex : x = .ref a) (ey : y = .ref b) (ha : SqT K H a xs) (hb : SqT K H b ys) (hl : xs.length + ys.length ≤ sizeLine)
    (q : ∀ p H', Same H H' → SqT K H' p (xs ++ ys) → Q (.ref p) H') : rCatA K x y H Q := by
  refine ⟨a, b, xs, ys, ex, ey, ha, hb, hl, fun z => q b H (Same.refl _) ?_, fun _ z => q a H (Same.refl _) ?_, fun _ _ p np => q p _ (same_new np _) (.inl (.inl upd_same))⟩
  · rw [z]
    exact hb
  · rw [z, List.append_nil]
    exact ha
theorem noPart {σ : L2.St} {H : Hp} {Q : Option Int → Hp → Prop} (h : Q none H) : tNoPart σ H Q := h
theorem cut_to {xs : List V} {k : Nat} (h : k ≤ xs.length) : cutV xs none (some (k : Int)) = xs.take k := by
  unfold cutV
  rw [HT.sIx_nat, HT.sIx_none, List.drop_zero, Nat.sub_zero, Nat.min_eq_left h]
theorem cut_from {xs : List V} {k : Nat} (h : k ≤ xs.length) : cutV xs (some (k : Int)) none = xs.drop k := by
  unfold cutV
  rw [HT.sIx_nat, HT.sIx_none, Nat.min_eq_left h]
  rw [List.take_of_length_le]
  rw [List.length_drop]
  exact Nat.le_refl _
theorem dp_app {K : PySem.W.Frag} {H : Hp} : ∀ {vs : List V} {ds : List PyData} {us : List V} {es : List PyData}, DpAll K H vs ds → DpAll K H us es → DpAll K H (vs ++ us) (ds ++ es)
  | _, _, _, _, .nil, b => b
  | _, _, _, _, .cons x r, b => .cons x (dp_app r b)
theorem dp_take {K : PySem.W.Frag} {H : Hp} : ∀ {vs : List V} {ds : List PyData} (k : Nat), DpAll K H vs ds → DpAll K H (vs.take k) (ds.take k)
  | _, _, 0, _ => .nil
  | _, _, _ + 1, .nil => .nil
  | _, _, k + 1, .cons x r => .cons x (dp_take k r)
theorem dp_drop {K : PySem.W.Frag} {H : Hp} : ∀ {vs : List V} {ds : List PyData} (k : Nat), DpAll K H vs ds → DpAll K H (vs.drop k) (ds.drop k)
  | _, _, 0, h => h
  | _, _, _ + 1, .nil => .nil
  | _, _, k + 1, .cons x r => dp_drop k r
structure Bend (mg : Str → Option Value) (K : PySem.W.Frag) (fD fO fB : Addr) (dD dO dB : FuncData) : Prop where
  gD : mg "_law_draw" = some (.ref fD)
  kD : PySem.W.keepIn K (.ref fD) = true
  bD : Binds K dD ["_law_tape_here", "_law_many"] []
  gO : mg "_law_other" = some (.ref fO)
  kO : PySem.W.keepIn K (.ref fO) = true
  bO : Binds K dO ["_law_tape_here", "_law_part"] []
  gB : mg "_law_bent" = some (.ref fB)
  kB : PySem.W.keepIn K (.ref fB) = true
  bB : Binds K dB ["_law_tape_here", "_law_thing"] []
  ml : mg "len" = none
  mi : mg "isinstance" = none
  mtuple : mg "tuple" = none
  mlist : mg "list" = none
/-- a thing bent: of at most w parts each, m levels, was w - 1 parts and m - 2 levels -/
def spBent (K : PySem.W.Frag) (n : Nat) : Sp := fun vs H Q _ => ∃ (T L : Addr) (v : V) (d : PyData) (w m : Nat) (B : Int), vs = [.ref T, v] ∧ m < n ∧ 3 ≤ w ∧ w ≤ 8 ∧ Dp K H v d ∧ Fits w m d ∧ Tape H T L B ∧ B + 33 * m + 200 ≤ 1000000 ∧
  ∀ (H' : Hp) (u : V) (d' : PyData), Tape H' T L (B + 33 * m + 33) → Keep T H H' → Dp K H' u d' → Fits (w + 1) (m + 2) d' → Q u H'
section
variable {P : Program} {w : World} {K : PySem.W.Frag} {mg : Str → Option Value} {base : Heap} {f fD fO : Addr} {fd dD dO : FuncData}
theorem ok_bent {n : Nat} (F0 : FnP K "_law_bent" sBent f fd) (GD : FnOk P w K mg base CX0 11 fD dD ["_law_tape_here", "_law_many"] (spDraw 11)) (GO : FnOk P w K mg base CX0 12 fO dO ["_law_tape_here", "_law_part"] (spOther K))
    (GR : FnOk P w K mg base CX0 (12 + n) f fd ["_law_tape_here", "_law_thing"] (spBent K n)) (T0 : Bend mg K fD fO f dD dO fd) :
    FnOk P w K mg base CX0 (12 + n + 1) f fd ["_law_tape_here", "_law_thing"] (spBent K (n + 1)) := by
  refine F0.ok scBent (fun vs H Q E h => ?_) (fun cdv A outer s H vs Q E hr h => ?_)
  · obtain ⟨T, L, v, d, ww, m, B, rfl, _⟩ := h
    rfl
  obtain ⟨T, L, v, d, ww, m, B, rfl, hm, hw3, hw8, hd, hf, hT, hB, q⟩ := h
  have hr11 : Room 11 _ := hr.mono (by omega)
  have hr12 : Room 12 _ := hr.mono (by omega)
  refine ⟨_, PSs.nox (pss_cons (ps_if (PW.pt (pw_or (pt_not (pt_val (pe_callB call_isi (by rfl) T0.mi (by decide +kernel) (pa_cons (pv 1) (pa_cons (pe_bltn (v := V.ty "tuple") (by rfl) T0.mtuple (by decide +kernel) rfl) pa_nil))))) (pw_or (pt_cmpR (op_eqNil hr.units0) (pv 1) (pe_tup pa_nil) (nomark _)) (pw_or1 (pt_cmpR op_eq (pe_call GD hr11 (by rfl) T0.gD T0.kD T0.bD .nil pass0 (pa_cons (pv 0) (pa_cons pe_int pa_nil))) pe_int (nomark _))))))
 (pss_one (ps_ret (pe_call GO hr12 (by rfl) T0.gO T0.kO T0.bO .nil pass0 (pa_cons (pv 0) (pa_cons (pv 1) pa_nil))))) pss_nil)
 (pss_cons (ps_set (i := 2) scBent.nd rfl (Or.inl rfl) (pe_call GD hr11 (by rfl) T0.gD T0.kD T0.bD .nil pass0 (pa_cons (pv 0) (pa_cons (pe_callB call_len_seq (by rfl) T0.ml PySem.boot_len (pa_cons (pv 1) pa_nil)) pa_nil))))
 (pss_cons (ps_set (i := 3) scBent.nd rfl (Or.inl rfl) (pe_op op_rep (pe_lst (pa_cons (pe_op op_catA (pe_op op_catA (pe_slice sl_tupA (pv 1) po_none (po_some (pv 2))) (pe_tup (pa_cons (pe_call GR hr (by rfl) T0.gB T0.kB T0.bB .nil pass0 (pa_cons (pv 0) (pa_cons (pe_ix ix_tup (pv 1) (pv 2) (fun _ _ => rfl)) pa_nil))) pa_nil))) (pe_slice sl_tupA (pv 1) (po_some (pe_op op_add (pv 2) pe_int)) po_none)) pa_nil)) pe_int))
 (pss_cons (ps_set (i := 3) scBent.nd rfl (Or.inl rfl) (pe_op op_cat (pv 3) (pe_lst (pa_cons (pe_op op_catA (pe_slice sl_tupA (pv 1) po_none (po_some (pv 2))) (pe_slice sl_tupA (pv 1) (po_some (pe_op op_add (pv 2) pe_int)) po_none)) (pa_cons (pe_op op_catA (pv 1) (pe_tup (pa_cons (pe_tup (pa_cons pe_str pa_nil)) pa_nil))) (pa_cons (pe_callTy call_list_of (by rfl) T0.mlist (by decide +kernel) (pa_cons (pv 1) pa_nil)) pa_nil))))))
 (pss_one (ps_ret (pe_ix ix_list (pv 3) (pe_call GD hr11 (by rfl) T0.gD T0.kD T0.bD .nil pass0 (pa_cons (pv 0) (pa_cons pe_int pa_nil))) (fun _ _ => rfl)))))))), ?_⟩
  have four : ∀ {d' : PyData}, Fits 4 2 d' → Fits (ww + 1) (m + 2) d' := fun h => fits_mono (by omega) (by omega) h
  refine is_tup rfl hd _ ⟨_, rfl, ?_⟩
  cases hs : isTup d with
  | false =>
    refine iteT ?_
    refine ⟨_, rfl, _, rfl, T, L, v, B, rfl, by omega, hT, fun H' u t k hu => ?_⟩
    obtain ⟨d', h1, h2⟩ := hu
    exact q H' u d' (t.more (by omega)) k h1 (four h2)
  | true =>
    refine iteF ?_
    obtain ⟨ds, rfl⟩ : ∃ ds, d = .tuple ds := by cases d <;> first | exact ⟨_, rfl⟩ | cases hs
    cases hd with
    | @tup a xs _ ha hall =>
    have hlen := dp_len hall
    have hfl := (fits_tup hf).1
    have hfc := (fits_tup hf).2
    refine ⟨_, rfl, Nat.zero_le _, fun p0 n0 => ?_⟩
    have s0 := same_new n0 (.tup [])
    have e0 : (upd H p0 (.tup [])) p0 = some (.tup []) := upd_same
    generalize upd H p0 (.tup []) = H1 at s0 e0 ⊢
    have t1 := hT.same s0
    refine ⟨a, p0, xs, rfl, rfl, same_tup s0 ha, .inl (.inl e0), _, rfl, ?_⟩
    cases hx : xs.isEmpty with
    | true =>
      refine iteT ?_
      refine ⟨_, rfl, _, rfl, T, L, _, B, rfl, by omega, t1, fun H' u t k hu => ?_⟩
      obtain ⟨d', h1, h2⟩ := hu
      exact q H' u d' (t.more (by omega)) ((Keep.of s0).trans k) h1 (four h2)
    | false =>
    refine iteF ?_
    have hpos : 0 < xs.length := by
      cases xs with
      | nil => cases hx
      | cons _ _ => exact Nat.succ_pos _
    obtain ⟨j, rfl⟩ : ∃ j, m = j + 1 := by
      cases ds with
      | nil =>
        rw [hlen] at hpos
        exact absurd hpos (by decide)
      | cons d0 r =>
        obtain ⟨j, e, _⟩ := hfc d0 List.mem_cons_self
        exact ⟨j, e⟩
    refine ⟨_, rfl, T, L, 6, B, rfl, by decide, by decide, by omega, t1, fun H2 r r0 r1 t2 k2 => ?_⟩
    have k02 := (Keep.of (T := T) s0).trans k2
    refine ⟨rfl, _, rfl, ite2 (fun _ => ?_) (fun _ => ?_)⟩
    · refine ⟨_, rfl, _, rfl, T, L, _, _, rfl, by omega, t2, fun H' u t k hu => ?_⟩
      obtain ⟨d', h1, h2⟩ := hu
      exact q H' u d' (t.more (by omega)) (k02.trans k) h1 (four h2)
    have q2 := seqK_keep hT k02
    have ha2 := seqT q2 ha
    refine ⟨_, rfl, _, rfl, a, _, rfl, .inr ha2, T, L, _, B + 11, rfl, by omega, Nat.lt_of_le_of_lt (show _ ≤ 8 by omega) (by decide), by omega, t2, fun H3 r r0 r1 t3 k3 => ?_⟩
    obtain ⟨k, rfl⟩ : ∃ k : Nat, r = (k : Int) := ⟨r.toNat, by omega⟩
    have hk : k < xs.length := by omega
    have k03 := k02.trans k3
    have ha3 := seqT (seqK_keep hT k03) ha
    have hall3 := dp_seqAll (seqK_keep hT k03) hall
    obtain ⟨dk, hdk, hDk⟩ := dp_get hall (List.getElem?_eq_getElem hk)
    have hfk : Fits ww j dk := by
      obtain ⟨j', e, h⟩ := hfc dk (List.mem_of_getElem? hdk)
      cases e
      exact h
    have ejk : HT.sIx xs.length xs.length (some ((k : Int) + 1)) = min (k + 1) xs.length := HT.sIx_nat _ _ (k + 1)
    have cf : cutV xs (some ((k : Int) + 1)) none = xs.drop (k + 1) := cut_from (k := k + 1) (by omega)
    have ct : cutV xs none (some (k : Int)) = xs.take k := cut_to (by omega)
    have hsm : ∀ n : Nat, n ≤ 20 → n ≤ sizeLine := fun n h => small (by omega)
    -- one part bent
    refine ⟨_, rfl, _, rfl, _, rfl, slA_any rfl ha3 fun p4 H4 s4 e4 => ?_⟩
    rw [ct] at e4
    have t4 := t3.same s4
    have ha4 := same_tup s4 ha3
    refine ⟨_, rfl, _, rfl, _, rfl, a, _, _, _, rfl, rfl, ha4, atI_nat (List.getElem?_eq_getElem hk), T, L, _, dk, ww, j, B + 22, rfl, by omega, hw3, hw8, dp_same s4 (dp_seq (seqK_keep hT k03) hDk), hfk, t4.more (by omega), by omega, fun H5 u dk' t5 k5 hu hfu => ?_⟩
    have e5 := seqT (seqK_keep t4 k5) e4
    refine ⟨hsm 1 (by decide), fun p6 n6 => ?_⟩
    have s6 := same_new n6 (.tup [u])
    have g6 : SqT K (upd H5 p6 (.tup [u])) p6 [u] := .inl (.inl upd_same)
    have e6 := same_tup s6 e5
    generalize upd H5 p6 (.tup [u]) = H6 at s6 g6 e6 ⊢
    refine catA_any rfl rfl e6 g6 (by rw [List.length_take]; exact hsm _ (by show _ + 1 ≤ 20; omega)) fun p7 H7 s7 e7 => ?_
    have k07 : SeqK H H7 := ((((seqK_keep hT k03).trans (SeqK.of s4)).trans (seqK_keep t4 k5)).trans (SeqK.of s6)).trans (SeqK.of s7)
    have ha7 := seqT k07 ha
    refine ⟨_, rfl, _, rfl, _, _, rfl, rfl, _, rfl, noPart (slA_any rfl ha7 fun p8 H8 s8 e8 => ?_)⟩
    rw [cf] at e8
    refine catA_any rfl rfl (same_tup s8 e7) e8 (by rw [List.length_append, List.length_take, List.length_drop]; exact hsm _ (by show _ + 1 + _ ≤ 20; omega)) fun p9 H9 s9 e9 => ?_
    refine ⟨hsm 1 (by decide), fun pa na => ⟨pa, 5, _, rfl, rfl, upd_same, by decide, by decide, hsm 5 (by decide), fun pb nb => ?_⟩⟩
    have sa := same_new na (.lst [.ref p9])
    have sb := same_new nb (.lst (List.replicate (5 : Int).toNat [V.ref p9]).flatten)
    have eb : (upd (upd H9 pa (.lst [.ref p9])) pb (.lst (List.replicate (5 : Int).toNat [V.ref p9]).flatten)) pb = some (.lst (List.replicate 5 (V.ref p9))) := upd_same
    have sab := sa.trans sb
    generalize upd (upd H9 pa (.lst [.ref p9])) pb (.lst (List.replicate (5 : Int).toNat [V.ref p9]).flatten) = Hb at sab eb ⊢
    have k0b : SeqK H Hb := ((k07.trans (SeqK.of s8)).trans (SeqK.of s9)).trans (SeqK.of sab)
    have hab := seqT k0b ha
    have e9b := same_tup sab e9
    have hub := dp_same ((((s6.trans s7).trans s8).trans s9).trans sab) hu
    have tb := t5.same ((((s6.trans s7).trans s8).trans s9).trans sab)
    have kb : Keep T H Hb := ((k03.trans (Keep.of s4)).trans k5).trans (Keep.of ((((s6.trans s7).trans s8).trans s9).trans sab))
    have fc : ∀ c ∈ ds, Fits (ww + 1) (j + 2) c := fun c hc => by
      obtain ⟨j', e, h⟩ := hfc c hc
      cases e
      exact fits_mono (by omega) (by omega) h
    have dX : Dp K Hb (.ref p9) (.tuple (ds.take k ++ [dk'] ++ ds.drop (k + 1))) :=
      .tup e9b (dp_app (dp_app (dp_take k (dp_seqAll k0b hall)) (.cons hub .nil)) (dp_drop (k + 1) (dp_seqAll k0b hall)))
    have fX : Fits (ww + 1) (j + 1 + 2) (.tuple (ds.take k ++ [dk'] ++ ds.drop (k + 1))) := by
      refine ⟨?_, fun c hc => ?_⟩
      · rw [List.length_append, List.length_append, List.length_take, List.length_drop]
        show _ + 1 + _ ≤ ww + 1
        omega
      · rcases List.mem_append.mp hc with hc | hc
        · rcases List.mem_append.mp hc with hc | hc
          · exact fc c (List.mem_of_mem_take hc)
          · rw [List.mem_singleton.mp hc]
            exact hfu
        · exact fc c (List.mem_of_mem_drop hc)
    generalize ds.take k ++ [dk'] ++ ds.drop (k + 1) = D1 at dX fX
    -- a part fewer, a part more, a list
    refine ⟨_, rfl, _, rfl, _, rfl, _, rfl, slA_any rfl hab fun q1 G1 z1 y1 => ?_⟩
    rw [ct] at y1
    refine ⟨_, rfl, _, rfl, _, _, rfl, rfl, _, rfl, noPart (slA_any rfl (same_tup z1 hab) fun q2 G2 z2 y2 => ?_)⟩
    rw [cf] at y2
    refine catA_any rfl rfl (same_tup z2 y1) y2 (by rw [List.length_take, List.length_drop]; exact hsm _ (by omega)) fun q3 G3 z3 y3 => ?_
    have z03 := (z1.trans z2).trans z3
    have dY : Dp K G3 (.ref q3) (.tuple (ds.take k ++ ds.drop (k + 1))) := .tup y3 (dp_sameAll z03 (dp_app (dp_take k (dp_seqAll k0b hall)) (dp_drop (k + 1) (dp_seqAll k0b hall))))
    have fY : Fits (ww + 1) (j + 1 + 2) (.tuple (ds.take k ++ ds.drop (k + 1))) := by
      refine ⟨?_, fun c hc => ?_⟩
      · rw [List.length_append, List.length_take, List.length_drop]
        omega
      · rcases List.mem_append.mp hc with hc | hc
        · exact fc c (List.mem_of_mem_take hc)
        · exact fc c (List.mem_of_mem_drop hc)
    generalize ds.take k ++ ds.drop (k + 1) = D2 at dY fY
    have ha3g := same_tup z03 hab
    refine ⟨_, rfl, hsm 1 (by decide), fun q4 m4 => ⟨hsm 1 (by decide), fun q5 m5 => ?_⟩⟩
    have z4 := same_new m4 (.tup [.str "yes"])
    have z5 := same_new m5 (.tup [.ref q4])
    have y4 : SqT K (upd (upd G3 q4 (.tup [.str "yes"])) q5 (.tup [.ref q4])) q4 [.str "yes"] := same_tup z5 (.inl (.inl upd_same))
    have y5 : SqT K (upd (upd G3 q4 (.tup [.str "yes"])) q5 (.tup [.ref q4])) q5 [.ref q4] := .inl (.inl upd_same)
    have z45 := z4.trans z5
    generalize upd (upd G3 q4 (.tup [.str "yes"])) q5 (.tup [.ref q4]) = G5 at z45 y4 y5 ⊢
    refine catA_any rfl rfl (same_tup z45 ha3g) y5 (hsm _ (by show _ + 1 ≤ 20; omega)) fun q6 G6 z6 y6 => ?_
    have dZ : Dp K G6 (.ref q6) (.tuple (ds ++ [.tuple [.str "yes"]])) := .tup y6 (dp_sameAll z6 (dp_app (dp_sameAll (z03.trans z45) (dp_seqAll k0b hall)) (.cons (.tup y4 (.cons (.str _) .nil)) .nil)))
    have fZ : Fits (ww + 1) (j + 1 + 2) (.tuple (ds ++ [.tuple [.str "yes"]])) := by
      refine ⟨?_, fun c hc => ?_⟩
      · rw [List.length_append]
        show _ + 1 ≤ ww + 1
        omega
      · rcases List.mem_append.mp hc with hc | hc
        · exact fc c hc
        · rw [List.mem_singleton.mp hc]
          exact fits_mono (w := 1) (n := 1) (by omega) (by omega) (fits_of (by decide +kernel))
    generalize ds ++ [.tuple [.str "yes"]] = D3 at dZ fZ
    have ha6 := same_tup (z45.trans z6) ha3g
    refine ⟨_, rfl, a, xs, rfl, .inr ha6, fun q7 m7 => ?_⟩
    have z7 := same_new m7 (.lst xs)
    have dW : Dp K (upd G6 q7 (.lst xs)) (.ref q7) (.list ds) := .lst (SqL.of upd_same) (dp_sameAll z7 (dp_sameAll ((z03.trans z45).trans z6) (dp_seqAll k0b hall)))
    have fW : Fits (ww + 1) (j + 1 + 2) (.list ds) := ⟨by omega, fc⟩
    generalize upd G6 q7 (.lst xs) = G7 at z7 dW ⊢
    refine ⟨hsm 3 (by decide), fun q8 m8 => ?_⟩
    have z8 := same_new m8 (.lst [.ref q3, .ref q6, .ref q7])
    have e8' : (upd G7 q8 (.lst [.ref q3, .ref q6, .ref q7])) q8 = some (.lst [.ref q3, .ref q6, .ref q7]) := upd_same
    generalize upd G7 q8 (.lst [.ref q3, .ref q6, .ref q7]) = G8 at z8 e8' ⊢
    have zb8 := (((z03.trans z45).trans z6).trans z7).trans z8
    refine ⟨pb, q8, _, _, rfl, rfl, zb8 _ _ eb, e8', hsm _ (by rw [List.length_replicate]; show 5 + 3 ≤ 20; decide), fun q9 m9 => ?_⟩
    have z9 := same_new m9 (.lst (List.replicate 5 (V.ref p9) ++ [.ref q3, .ref q6, .ref q7]))
    have e9' : (upd G8 q9 (.lst (List.replicate 5 (V.ref p9) ++ [.ref q3, .ref q6, .ref q7]))) q9 = some (.lst (List.replicate 5 (V.ref p9) ++ [.ref q3, .ref q6, .ref q7])) := upd_same
    generalize upd G8 q9 (.lst (List.replicate 5 (V.ref p9) ++ [.ref q3, .ref q6, .ref q7])) = G9 at z9 e9' ⊢
    have zb9 := zb8.trans z9
    have t9 := tb.same zb9
    have all : ∀ v ∈ List.replicate 5 (V.ref p9) ++ [V.ref q3, V.ref q6, V.ref q7], ∃ d', Dp K G9 v d' ∧ Fits (ww + 1) (j + 1 + 2) d' := fun v hv => by
      rcases List.mem_append.mp hv with hv | hv
      · rw [(List.mem_replicate.mp hv).2]
        exact ⟨_, dp_same zb9 dX, fX⟩
      rcases List.mem_cons.mp hv with rfl | hv
      · exact ⟨_, dp_same ((((z45.trans z6).trans z7).trans z8).trans z9) dY, fY⟩
      rcases List.mem_cons.mp hv with rfl | hv
      · exact ⟨_, dp_same ((z7.trans z8).trans z9) dZ, fZ⟩
      · rw [List.mem_singleton.mp hv]
        exact ⟨_, dp_same (z8.trans z9) dW, fW⟩
    refine ⟨_, rfl, _, rfl, T, L, 8, _, rfl, by decide, by decide, by omega, t9, fun He r2 r20 r21 tE kE => ?_⟩
    obtain ⟨v2, hv1, hv2⟩ := at_in (xs := List.replicate 5 (V.ref p9) ++ [V.ref q3, V.ref q6, V.ref q7]) r20 (by rw [List.length_append, List.length_replicate]; exact r21)
    obtain ⟨d', h1, h2⟩ := all v2 hv1
    refine ⟨q9, _, _, _, rfl, rfl, SqL.of (kE _ _ e9' (nT_of t9 e9')), hv2, ?_⟩
    exact q He v2 d' (tE.more (by omega)) ((kb.trans (Keep.of zb9)).trans kE) (dp_seq (seqK_keep t9 kE) h1) h2
theorem no_bent : FnOk P w K mg base CX0 12 f fd ["_law_tape_here", "_law_thing"] (spBent K 0) := by
  have no : ∀ vs H Q E, ¬ spBent K 0 vs H Q E := fun vs H Q E h => by
    obtain ⟨T, L, v, d, ww, m, B, _, h1, _⟩ := h
    omega
  exact ⟨fun vs H Q E h => absurd h (no vs H Q E), fun A outer s H args us vs Q E _ _ _ _ h => absurd h (no vs H Q E)⟩
theorem all_bent (F0 : FnP K "_law_bent" sBent f fd) (GD : FnOk P w K mg base CX0 11 fD dD ["_law_tape_here", "_law_many"] (spDraw 11)) (GO : FnOk P w K mg base CX0 12 fO dO ["_law_tape_here", "_law_part"] (spOther K)) (T0 : Bend mg K fD fO f dD dO fd) :
    ∀ n : Nat, FnOk P w K mg base CX0 (12 + n) f fd ["_law_tape_here", "_law_thing"] (spBent K n)
  | 0 => no_bent
  | n + 1 => ok_bent F0 GD GO (all_bent F0 GD GO T0 n) T0
end
end My

set_option maxRecDepth 100000
set_option maxHeartbeats 4000000
namespace My
open PySem PySem.Spec PyProof.Rows L2
abbrev sLong : Stmt := top 20
theorem scLong : FnScope ["_law_tape_here", "_law_name", "_law_way", "_law_many", "_law_found", "_law_k", "_law_pieces", "_law_rest"] ["_law_tape_here", "_law_name"] (defScope sLong) := ⟨rfl, rfl, rfl, by decide +kernel, rfl, by decide +kernel, by decide +kernel⟩
/-- a tree of tuples and texts, at most 3 long each -/
def Ge (H : Hp) (v : V) : Prop := ∃ n d, Tt H v d ∧ Fits 3 n d
theorem tupK_keep {H H' : Hp} {T L : Addr} {B : Int} (t : Tape H T L B) (k : Keep T H H') : TupK H H' := fun b xs h => by
  refine k b _ h (fun z => ?_)
  obtain ⟨ns, s, l, a, _⟩ := t
  rw [z, a.d] at h
  cases h
theorem ge_keep {H H' : Hp} {v : V} (e : TupK H H') (h : Ge H v) : Ge H' v := by
  obtain ⟨n, d, h1, h2⟩ := h
  exact ⟨n, d, tt_keep e h1, h2⟩
theorem ge_same {H H' : Hp} {v : V} (e : Same H H') (h : Ge H v) : Ge H' v := ge_keep (TupK.of e) h
theorem ge_str {H : Hp} {z : Str} (h : z.length ≤ 1000) : Ge H (.str z) := ⟨0, _, .str z, fits_str h⟩
theorem ge_tup1 {H : Hp} {p : Addr} {a : V} (ha : Ge H a) (np : H p = none) : Ge (upd H p (.tup [a])) (.ref p) := by
  obtain ⟨n, d, h1, h2⟩ := ge_same (same_new np (.tup [a])) ha
  refine ⟨n + 1, .tuple [d], .tup upd_same (.cons h1 .nil), by show 1 ≤ 3; decide, fun c hc => ?_⟩
  rw [List.mem_singleton.mp hc]
  exact h2
theorem ge_tup2 {H : Hp} {p : Addr} {a b : V} (ha : Ge H a) (hb : Ge H b) (np : H p = none) : Ge (upd H p (.tup [a, b])) (.ref p) := by
  obtain ⟨n, d, h1, h2⟩ := ge_same (same_new np (.tup [a, b])) ha
  obtain ⟨m, e, h3, h4⟩ := ge_same (same_new np (.tup [a, b])) hb
  refine ⟨n + m + 1, .tuple [d, e], .tup upd_same (.cons h1 (.cons h3 .nil)), by show 2 ≤ 3; decide, fun c hc => ?_⟩
  rcases List.mem_cons.mp hc with rfl | hc
  · exact fits_mono (by omega) (by omega) h2
  · rw [List.mem_singleton.mp hc]
    exact fits_mono (by omega) (by omega) h4
theorem ge_tup3 {H : Hp} {p : Addr} {a b g : V} (ha : Ge H a) (hb : Ge H b) (hg : Ge H g) (np : H p = none) : Ge (upd H p (.tup [a, b, g])) (.ref p) := by
  obtain ⟨n, d, h1, h2⟩ := ge_same (same_new np (.tup [a, b, g])) ha
  obtain ⟨m, e, h3, h4⟩ := ge_same (same_new np (.tup [a, b, g])) hb
  obtain ⟨k, f, h5, h6⟩ := ge_same (same_new np (.tup [a, b, g])) hg
  refine ⟨n + m + k + 1, .tuple [d, e, f], .tup upd_same (.cons h1 (.cons h3 (.cons h5 .nil))), by show 3 ≤ 3; decide, fun c hc => ?_⟩
  rcases List.mem_cons.mp hc with rfl | hc
  · exact fits_mono (by omega) (by omega) h2
  rcases List.mem_cons.mp hc with rfl | hc
  · exact fits_mono (by omega) (by omega) h4
  · rw [List.mem_singleton.mp hc]
    exact fits_mono (by omega) (by omega) h6
theorem flat1 {r : V} : ∀ n : Nat, (List.replicate n [r]).flatten = List.replicate n r
  | 0 => rfl
  | n + 1 => by
    rw [List.replicate_succ, List.flatten_cons, flat1 n]
    rfl
theorem rgc2 {m : Nat} (h2 : 2 ≤ m) (h : m ≤ 1000) : RgC 0 ((m : Int) - 1) 2 (m / 2) := by
  have e : Builtin.Range.rangeSize 0 ((m : Int) - 1) 2 = ((m / 2 : Nat) : Int) := by
    unfold Builtin.Range.rangeSize
    rw [if_pos (by decide), if_pos (by omega)]
    omega
  refine ⟨by decide, by decide, ?_, e⟩
  unfold Builtin.Range.small
  rw [e]
  simp only [Builtin.Range.rangeFitsLong, Bool.and_eq_true, Bool.or_eq_true, decide_eq_true_eq, beq_iff_eq, show ((2 : Int) > 0) by decide, if_true]
  omega
structure Long (mg : Str → Option Value) (K : PySem.W.Frag) (fD : Addr) (dD : FuncData) : Prop where
  gD : mg "_law_draw" = some (.ref fD)
  kD : PySem.W.keepIn K (.ref fD) = true
  bD : Binds K dD ["_law_tape_here", "_law_many"] []
  ml : mg "len" = none
  mr : mg "range" = none
def spLong : Sp := fun vs H Q _ => ∃ (T L : Addr) (z : Str) (B : Int), vs = [.ref T, .str z] ∧ z.length ≤ 1000 ∧ B + 500 ≤ 1000000 ∧ Tape H T L B ∧
  ∀ (H' : Hp) (u : V), Tape H' T L (B + 400) → Keep T H H' → Ge H' u → Q u H'
section
variable {P : Program} {w : World} {K : PySem.W.Frag} {mg : Str → Option Value} {base : Heap} {f fD : Addr} {fd dD : FuncData}
theorem ok_long (F0 : FnP K "_law_long" sLong f fd) (GD : FnOk P w K mg base CX0 11 fD dD ["_law_tape_here", "_law_many"] (spDraw 11)) (T0 : Long mg K fD dD) :
    FnOk P w K mg base CX0 12 f fd ["_law_tape_here", "_law_name"] spLong := by
  refine F0.ok scLong (fun vs H Q E h => ?_) (fun cdv A outer s H vs Q E hr h => ?_)
  · obtain ⟨T, L, z, B, rfl, _⟩ := h
    rfl
  obtain ⟨T, L, z, B, rfl, hz, hB, hT, q⟩ := h
  have hr11 : Room 11 _ := hr.mono (by omega)
  refine ⟨_, PSs.nox (pss_cons (ps_set (i := 2) scLong.nd rfl (Or.inl rfl) (pe_call GD hr11 (by rfl) T0.gD T0.kD T0.bD .nil pass0 (pa_cons (pv 0) (pa_cons pe_int pa_nil))))
 (pss_cons (ps_set (i := 3) scLong.nd rfl (Or.inl rfl) (pe_op op_add pe_int (pe_call GD hr11 (by rfl) T0.gD T0.kD T0.bD .nil pass0 (pa_cons (pv 0) (pa_cons pe_int pa_nil)))))
 (pss_cons (ps_set (i := 4) scLong.nd rfl (Or.inl rfl) (pe_tup (pa_cons pe_str (pa_cons (pv 1) pa_nil))))
 (pss_cons (ps_if (pt_cmpR op_eq (pv 2) pe_int (nomark _))
 (pss_cons (ps_for PassesOwn.never rfl (pi_range1 (by rfl) T0.mr (pa_cons (pe_op op_sub (pv 3) pe_int) pa_nil)) (pg_name (i := 5) scLong.nd rfl (Or.inl rfl))
 (pss_one (ps_set (i := 4) scLong.nd rfl (Or.inl rfl) (pe_ix ix_list (pe_lst (pa_cons (pe_tup (pa_cons pe_str (pa_cons (pv 4) pa_nil))) (pa_cons (pe_tup (pa_cons pe_str (pa_cons (pv 4) (pa_cons (pe_tup (pa_cons pe_str pa_nil)) pa_nil)))) (pa_cons (pe_tup (pa_cons pe_str (pa_cons (pe_tup (pa_cons pe_str pa_nil)) (pa_cons (pv 4) pa_nil)))) pa_nil)))) (pe_call GD hr11 (by rfl) T0.gD T0.kD T0.bD .nil pass0 (pa_cons (pv 0) (pa_cons pe_int pa_nil))) (fun _ _ => rfl)))))
 (pss_one (ps_ret (pv 4)))) pss_nil)
 (pss_cons (ps_set (i := 6) scLong.nd rfl (Or.inr rfl) (pe_op op_rep (pe_lst (pa_cons (pe_tup (pa_cons pe_str (pa_cons (pv 1) pa_nil))) pa_nil)) (pe_op op_add pe_int (pe_call GD hr11 (by rfl) T0.gD T0.kD T0.bD .nil pass0 (pa_cons (pv 0) (pa_cons pe_int pa_nil))))))
 (pss_cons (ps_while PassesOwn.never (pt_cmpR op_gt (pe_callB call_len_seq (by rfl) T0.ml PySem.boot_len (pa_cons (pv 6) pa_nil)) pe_int (nomark _))
 (pss_cons (ps_set (i := 7) scLong.nd rfl (Or.inl rfl) (pe_slice sl_list (pv 6) (po_some (pe_op op_mulW (pe_op op_fdivW (pe_callB call_len_seq (by rfl) T0.ml PySem.boot_len (pa_cons (pv 6) pa_nil)) pe_int) pe_int)) po_none))
 (pss_one (ps_set (i := 6) scLong.nd rfl (Or.inr rfl) (pe_op op_cat (pe_lc (own := [("_law_k", 5)]) (g := gName 5) (tt := tYes) (by rfl) scLong.nd (pi_range3 (by rfl) T0.mr (pa_cons pe_int (pa_cons (pe_op op_sub (pe_callB call_len_seq (by rfl) T0.ml PySem.boot_len (pa_cons (pv 6) pa_nil)) pe_int) (pa_cons pe_int pa_nil)))) (blkOk_by (own := [("_law_k", 5)]) (N := ["_law_tape_here", "_law_name", "_law_way", "_law_many", "_law_found", "_law_k", "_law_pieces", "_law_rest"]) (sc := defScope sLong) (by decide +kernel)) (fun _ _ _ _ _ => pg_name (i := 5) scLong.nd rfl (Or.inl rfl)) (fun _ _ _ _ _ => pts_nil) (fun _ _ _ _ _ => (pe_tup (pa_cons pe_str (pa_cons (pe_ix (show IxR _ (rIxL K) from ix_list) (pv 6) (pv 5) (fun _ _ => rfl)) (pa_cons (pe_ix (show IxR _ (rIxL K) from ix_list) (pv 6) (pe_op op_add (pv 5) pe_int) (fun _ _ => rfl)) pa_nil)))))) (pv 7))))))
 (pss_one (ps_ret (pe_ifExp (pt_cmpR op_eq (pv 2) pe_int (nomark _)) (pe_ix ix_list (pv 6) pe_int (fun _ _ => rfl)) (pe_tup (pa_cons pe_str (pa_cons (pe_ix ix_list (pv 6) pe_int (fun _ _ => rfl)) pa_nil)))))))))))), ?_⟩
  have hsm : ∀ n : Nat, n ≤ 1000 → n ≤ sizeLine := fun n h => small h
  refine ⟨_, rfl, T, L, 3, B, rfl, by decide, by decide, by omega, hT, fun H1 way w0 w1 t1 k1 => ?_⟩
  refine ⟨_, rfl, T, L, 3, _, rfl, by decide, by decide, by omega, t1, fun H2 m m0 m1 t2 k2 => ?_⟩
  have k02 := k1.trans k2
  have gz : Ge H2 (.str z) := ge_str hz
  refine ⟨_, _, rfl, rfl, _, rfl, hsm 2 (by decide), fun p n => ?_⟩
  have s3 := same_new n (.tup [.str "name", .str z])
  have g3 : Ge (upd H2 p (.tup [.str "name", .str z])) (.ref p) := ge_tup2 (ge_str (by decide)) gz n
  generalize upd H2 p (.tup [.str "name", .str z]) = H3 at s3 g3 ⊢
  have t3 := t2.same s3
  have k03 := k02.trans (Keep.of s3)
  refine ⟨_, rfl, rfl, _, rfl, ite2 (fun _ => ?_) (fun _ => ?_)⟩
  · -- a chain
    refine ⟨_, rfl, _, _, rfl, rfl, _, rfl, by omega, by omega, for_range (lo := 0) (n := (24 + m - 1).toNat) (fun i σ H' => ∃ (u : V) (kk : Option V),
      σ = [some (.ref T), some (.str z), some (.int way), some (.int (24 + m)), some u, kk, none, none] ∧ Ge H' u ∧ Tape H' T L (B + 22 + 11 * i) ∧ Keep T H H') ?_ ?_ ?_⟩
    · exact ⟨_, _, rfl, g3, t3.more (by omega), k03⟩
    · rintro i σ H4 hi ⟨u, kk, rfl, gu, t4, k04⟩
      refine ⟨_, rfl, hsm 2 (by decide), fun p1 n1 => ?_⟩
      have z1 := same_new n1 (.tup [.str "not", u])
      have g1 : Ge (upd H4 p1 (.tup [.str "not", u])) (.ref p1) := ge_tup2 (ge_str (by decide)) gu n1
      have gu1 := ge_same z1 gu
      generalize upd H4 p1 (.tup [.str "not", u]) = G1 at z1 g1 gu1 ⊢
      refine ⟨_, rfl, hsm 1 (by decide), fun p2 n2 => ?_⟩
      have z2 := same_new n2 (.tup [.str "yes"])
      have g2 : Ge (upd G1 p2 (.tup [.str "yes"])) (.ref p2) := ge_tup1 (ge_str (by decide)) n2
      have gu2 := ge_same z2 gu1
      generalize upd G1 p2 (.tup [.str "yes"]) = G2 at z2 g2 gu2 ⊢
      refine ⟨hsm 3 (by decide), fun p3 n3 => ?_⟩
      have z3 := same_new n3 (.tup [.str "and", u, .ref p2])
      have g3 : Ge (upd G2 p3 (.tup [.str "and", u, .ref p2])) (.ref p3) := ge_tup3 (ge_str (by decide)) gu2 g2 n3
      have gu3 := ge_same z3 gu2
      generalize upd G2 p3 (.tup [.str "and", u, .ref p2]) = G3 at z3 g3 gu3 ⊢
      refine ⟨hsm 1 (by decide), fun p4 n4 => ?_⟩
      have z4 := same_new n4 (.tup [.str "no"])
      have g4 : Ge (upd G3 p4 (.tup [.str "no"])) (.ref p4) := ge_tup1 (ge_str (by decide)) n4
      have gu4 := ge_same z4 gu3
      generalize upd G3 p4 (.tup [.str "no"]) = G4 at z4 g4 gu4 ⊢
      refine ⟨_, rfl, hsm 3 (by decide), fun p5 n5 => ?_⟩
      have z5 := same_new n5 (.tup [.str "same", .ref p4, u])
      have g5 : Ge (upd G4 p5 (.tup [.str "same", .ref p4, u])) (.ref p5) := ge_tup3 (ge_str (by decide)) g4 gu4 n5
      generalize upd G4 p5 (.tup [.str "same", .ref p4, u]) = G5 at z5 g5 ⊢
      refine ⟨hsm 3 (by decide), fun p6 n6 => ?_⟩
      have z6 := same_new n6 (.lst [.ref p1, .ref p3, .ref p5])
      have e6 : (upd G5 p6 (.lst [.ref p1, .ref p3, .ref p5])) p6 = some (.lst [.ref p1, .ref p3, .ref p5]) := upd_same
      generalize upd G5 p6 (.lst [.ref p1, .ref p3, .ref p5]) = G6 at z6 e6 ⊢
      have y4 := (z4.trans z5).trans z6
      have y1 := (z2.trans z3).trans y4
      have y0 := z1.trans y1
      have all : ∀ v ∈ [V.ref p1, V.ref p3, V.ref p5], Ge G6 v := fun v hv => by
        rcases List.mem_cons.mp hv with rfl | hv
        · exact ge_same y1 g1
        rcases List.mem_cons.mp hv with rfl | hv
        · exact ge_same y4 g3
        · rw [List.mem_singleton.mp hv]
          exact ge_same z6 g5
      have t6 := t4.same y0
      refine ⟨_, rfl, T, L, 3, _, rfl, by decide, by decide, by omega, t6, fun H5 r r0 r1 t5 k5 => ?_⟩
      obtain ⟨v, hv1, hv2⟩ := at_in (xs := [V.ref p1, V.ref p3, V.ref p5]) r0 r1
      refine ⟨p6, _, _, _, rfl, rfl, SqL.of (k5 _ _ e6 (nT_of t6 e6)), hv2, ?_⟩
      exact ⟨v, _, rfl, ge_keep (tupK_keep t6 k5) (all v hv1), t5.more (by omega), (k04.trans (Keep.of y0)).trans k5⟩
    · rintro σ H4 ⟨u, kk, rfl, gu, t4, k04⟩
      exact ⟨_, rfl, q H4 u (t4.more (by omega)) k04 gu⟩
  -- pieces
  refine ⟨_, rfl, hsm 2 (by decide), fun p1 n1 => ?_⟩
  have z1 := same_new n1 (.tup [.str "name", .str z])
  have g1 : Ge (upd H3 p1 (.tup [.str "name", .str z])) (.ref p1) := ge_tup2 (ge_str (by decide)) (ge_str hz) n1
  generalize upd H3 p1 (.tup [.str "name", .str z]) = G1 at z1 g1 ⊢
  refine ⟨hsm 1 (by decide), fun p2 n2 => ?_⟩
  have z2 := same_new n2 (.lst [.ref p1])
  have e2 : (upd G1 p2 (.lst [.ref p1])) p2 = some (.lst [.ref p1]) := upd_same
  generalize upd G1 p2 (.lst [.ref p1]) = G2 at z2 e2 ⊢
  have t4 := (t3.same z1).same z2
  refine ⟨_, rfl, T, L, 4, _, rfl, by decide, by decide, by omega, t4, fun H5 r r0 r1 t5 k5 => ?_⟩
  have e5 := k5 _ _ e2 (nT_of t4 e2)
  have g5 := ge_keep ((TupK.of z2).trans (tupK_keep t4 k5)) g1
  have k05 := ((k03.trans (Keep.of z1)).trans (Keep.of z2)).trans k5
  obtain ⟨j, rfl⟩ : ∃ j : Nat, r = (j : Int) := ⟨r.toNat, by omega⟩
  have ej : ((199 : Int) + (j : Int)).toNat = 199 + j := by omega
  refine ⟨_, _, rfl, rfl, p2, _, _, rfl, rfl, e5, by omega, by omega, (by rw [ej]; show 1 * _ ≤ _; rw [Nat.one_mul]; exact hsm _ (by omega)), fun p6 n6 => ?_⟩
  have z6 := same_new n6 (.lst (List.replicate ((199 : Int) + (j : Int)).toNat [V.ref p1]).flatten)
  have e6 : (upd H5 p6 (.lst (List.replicate ((199 : Int) + (j : Int)).toNat [V.ref p1]).flatten)) p6 = some (.lst (List.replicate (199 + j) (V.ref p1))) := by
    rw [upd_same, ej, flat1]
  generalize upd H5 p6 (.lst (List.replicate ((199 : Int) + (j : Int)).toNat [V.ref p1]).flatten) = H6 at z6 e6 ⊢
  have g6 := ge_same z6 g5
  have t6 := t5.same z6
  have k06 := k05.trans (Keep.of z6)
  refine ⟨fun mm σ H' => ∃ (xs : List V) (pp : Addr) (rr : Option V), mm = xs.length ∧
    σ = [some (.ref T), some (.str z), some (.int way), some (.int (24 + m)), some (.ref p), none, some (.ref pp), rr] ∧ H' pp = some (.lst xs) ∧ (∀ v ∈ xs, Ge H' v) ∧ 1 ≤ xs.length ∧ xs.length ≤ 300 ∧ Same H6 H',
    ⟨_, _, p6, none, rfl, rfl, e6, (fun v hv => by rw [(List.mem_replicate.mp hv).2]; exact g6), by rw [List.length_replicate]; omega, by rw [List.length_replicate]; omega, Same.refl _⟩, ?_⟩
  rintro mm σ H7 ⟨xs, pp, rr, rfl, rfl, e7, g7, l1, l2, z7⟩
  refine ⟨_, rfl, pp, _, rfl, .inl (SqL.of e7), _, _, rfl, rfl, _, rfl, ite2 (fun c => ?_) (fun c => ?_)⟩
  · have hl2 : 2 ≤ xs.length := by
      have := of_decide_eq_true c
      omega
    refine ⟨fun σ' H' => ∃ m', m' < xs.length ∧ ∃ (xs : List V) (pp : Addr) (rr : Option V), m' = xs.length ∧
      σ' = [some (.ref T), some (.str z), some (.int way), some (.int (24 + m)), some (.ref p), none, some (.ref pp), rr] ∧ H' pp = some (.lst xs) ∧ (∀ v ∈ xs, Ge H' v) ∧ 1 ≤ xs.length ∧ xs.length ≤ 300 ∧ Same H6 H', fun _ _ z => z, ?_⟩
    have d2 : ∀ i : Int, CDivW i 2 := fun i => wide_div (b := 7) (by decide) (by decide) (by decide) (by decide)
    have ek : (xs.length : Int) / 2 * 2 = ((xs.length / 2 * 2 : Nat) : Int) := by omega
    refine ⟨_, rfl, _, rfl, pp, _, rfl, .inl (SqL.of e7), _, _, rfl, rfl, d2 _, _, _, rfl, rfl, mul64 (by omega) (by omega) (by decide) (by decide), _, rfl, noPart ⟨pp, xs, rfl, SqL.of e7, fun p8 n8 => ?_⟩⟩
    rw [ek, cut_from (by omega)]
    have z8 := same_new n8 (.lst (xs.drop (xs.length / 2 * 2)))
    have e8 : (upd H7 p8 (.lst (xs.drop (xs.length / 2 * 2)))) p8 = some (.lst (xs.drop (xs.length / 2 * 2))) := upd_same
    have e78 := z8 _ _ e7
    generalize upd H7 p8 (.lst (xs.drop (xs.length / 2 * 2))) = H8 at z8 e8 e78 ⊢
    have g8 : ∀ v ∈ xs, Ge H8 v := fun v hv => ge_same z8 (g7 v hv)
    have z68 := z7.trans z8
    have hT8 := t6.same z68
    -- the pairs
    refine ⟨_, rfl, pp, _, rfl, .inl (SqL.of e78), _, _, rfl, rfl, _, _, _, xs.length / 2, rfl, rgc2 hl2 (by omega), fun D nD => lc_it (walk_rangeC (lo := 0) (c := 2) (n := xs.length / 2)) (fun i H' => ∃ acc, H' D = some (.lst acc) ∧ acc.length = i ∧ (∀ v ∈ acc, Ge H' v) ∧ Same H8 H') ?_ (fun _ _ _ _ => trivial) ?_ ?_⟩
    · exact ⟨[], upd_same, rfl, (fun v hv => by cases hv), same_new nD _⟩
    · rintro i v Hx H9 hi ⟨acc, eD, hl, ga, z9⟩ ⟨rfl, rfl⟩
      have eP := z9 _ _ e78
      have h1 : 2 * i < xs.length := by omega
      have h2 : 2 * i + 1 < xs.length := by omega
      have a1 : atI xs (0 + (i : Int) * 2) = some xs[2 * i] := by
        rw [show (0 : Int) + (i : Int) * 2 = ((2 * i : Nat) : Int) by omega]
        exact atI_nat (List.getElem?_eq_getElem h1)
      have a2 : atI xs (0 + (i : Int) * 2 + 1) = some xs[2 * i + 1] := by
        rw [show (0 : Int) + (i : Int) * 2 + 1 = ((2 * i + 1 : Nat) : Int) by omega]
        exact atI_nat (List.getElem?_eq_getElem h2)
      have x1 : Ge H9 xs[2 * i] := ge_same z9 (g8 _ (List.getElem_mem h1))
      have x2 : Ge H9 xs[2 * i + 1] := ge_same z9 (g8 _ (List.getElem_mem h2))
      refine ⟨rfl, ?_⟩
      refine ⟨_, rfl, _, rfl, pp, _, _, _, rfl, rfl, SqL.of eP, a1, _, rfl, _, rfl, _, _, rfl, rfl, pp, _, _, _, rfl, rfl, SqL.of eP, a2, hsm 3 (by decide), fun tp ntp => ?_⟩
      have zt := same_new ntp (.tup [.str "or", xs[2 * i], xs[2 * i + 1]])
      have gt : Ge (upd H9 tp (.tup [.str "or", xs[2 * i], xs[2 * i + 1]])) (.ref tp) := ge_tup3 (ge_str (by decide)) x1 x2 ntp
      have eDt := zt _ _ eD
      generalize upd H9 tp (.tup [.str "or", xs[2 * i], xs[2 * i + 1]]) = Ht at zt gt eDt ⊢
      refine ⟨acc, eDt, small1000 (by omega), acc ++ [.ref tp], upd_same, by rw [List.length_append, hl]; rfl, fun v hv => ?_, fun b o h => ?_⟩
      · rcases List.mem_append.mp hv with hv | hv
        · exact ge_keep ((TupK.of zt).trans (TupK.put eDt)) (ga v hv)
        · rw [List.mem_singleton.mp hv]
          exact ge_keep (TupK.put eDt) gt
      · rw [upd_ne (ne_of_none h nD)]
        exact zt _ _ (z9 _ _ h)
    · rintro H9 ⟨acc, eD, hl, ga, z9⟩
      refine ⟨_, rfl, D, p8, _, _, rfl, rfl, eD, z9 _ _ e8, (by rw [hl, List.length_drop]; exact hsm _ (by omega)), fun p9 n9 => ?_⟩
      have za := same_new n9 (.lst (acc ++ xs.drop (xs.length / 2 * 2)))
      have hlen : (acc ++ xs.drop (xs.length / 2 * 2)).length = xs.length / 2 + (xs.length - xs.length / 2 * 2) := by rw [List.length_append, hl, List.length_drop]
      refine ⟨_, ?_, acc ++ xs.drop (xs.length / 2 * 2), p9, _, rfl, rfl, upd_same, fun v hv => ?_, ?_, ?_, ?_⟩
      · rw [hlen]
        omega
      · rcases List.mem_append.mp hv with hv | hv
        · exact ge_same za (ga v hv)
        · exact ge_same (z9.trans za) (g8 v (List.mem_of_mem_drop hv))
      · rw [hlen]
        omega
      · rw [hlen]
        omega
      · exact (z68.trans z9).trans za
  · have h1 : xs.length = 1 := by
      have := of_decide_eq_false (Bool.eq_false_iff.mpr c)
      omega
    obtain ⟨x, rfl⟩ : ∃ x, xs = [x] := by
      cases xs with
      | nil => cases h1
      | cons x r =>
        cases r with
        | nil => exact ⟨x, rfl⟩
        | cons _ _ => cases h1
    have gx := g7 x List.mem_cons_self
    have t7 := t6.same z7
    have k07 := k06.trans (Keep.of z7)
    refine ⟨_, rfl, rfl, _, rfl, ite2 (fun _ => ?_) (fun _ => ?_)⟩
    · refine ⟨_, rfl, pp, _, _, _, rfl, rfl, SqL.of e7, at0, ?_⟩
      exact q H7 x (t7.more (by omega)) k07 gx
    · refine ⟨_, rfl, pp, _, _, _, rfl, rfl, SqL.of e7, at0, hsm 2 (by decide), fun p8 n8 => ?_⟩
      exact q _ _ ((t7.same (same_new n8 _)).more (by omega)) (k07.trans (Keep.of (same_new n8 _))) (ge_tup2 (ge_str (by decide)) gx n8)
end
end My

set_option maxRecDepth 100000
set_option maxHeartbeats 4000000
namespace My
open PySem PySem.Spec PyProof.Rows L2
abbrev sLaw : Stmt := top 21
theorem scLaw : FnScope ["_law_script", "_law_tape_here", "_law_names", "_law_turn", "_law_saying_here", "_law_some", "_law_thing", "_law_found"] ["_law_script"] (defScope sLaw) := ⟨rfl, rfl, rfl, by decide +kernel, rfl, by decide +kernel, by decide +kernel⟩
structure Defs (P : Program) (w : World) (K : PySem.W.Frag) (mg : Str → Option Value) (base : Heap) (fT fD fW fS fB fL fC fI : Addr) (dT dD dW dS dB dL dC dI : FuncData) : Prop where
  GT : FnOk P w K mg base CX0 1 fT dT ["_law_script"] (spTape K)
  GD : FnOk P w K mg base CX0 11 fD dD ["_law_tape_here", "_law_many"] (spDraw 11)
  GW : FnOk P w K mg base CX0 12 fW dW ["_law_tape_here", "_law_many"] (spWords K)
  GS : FnOk P w K mg base CX0 37 fS dS ["_law_tape_here", "_law_names", "_law_left", "_law_deep"] (spSay 26)
  GB : FnOk P w K mg base CX0 42 fB dB ["_law_tape_here", "_law_thing"] (spBent K 30)
  GL : FnOk P w K mg base CX0 12 fL dL ["_law_tape_here", "_law_name"] spLong
  GC : FnOk P w K mg base CX0 26 fC dC ["_law_thing", "_law_deep"] (spCounted K 26)
  GI : FnOk P w K mg base CX0 3 fI dI ["thing"] (spSaying K)
  gT : mg "_law_tape" = some (.ref fT)
  gD : mg "_law_draw" = some (.ref fD)
  gW : mg "_law_words" = some (.ref fW)
  gS : mg "_law_saying" = some (.ref fS)
  gB : mg "_law_bent" = some (.ref fB)
  gL : mg "_law_long" = some (.ref fL)
  gC : mg "_law_counted" = some (.ref fC)
  gI : mg "is_saying" = some (.ref fI)
  kT : PySem.W.keepIn K (.ref fT) = true
  kD : PySem.W.keepIn K (.ref fD) = true
  kW : PySem.W.keepIn K (.ref fW) = true
  kS : PySem.W.keepIn K (.ref fS) = true
  kB : PySem.W.keepIn K (.ref fB) = true
  kL : PySem.W.keepIn K (.ref fL) = true
  kC : PySem.W.keepIn K (.ref fC) = true
  kI : PySem.W.keepIn K (.ref fI) = true
  bT : Binds K dT ["_law_script"] []
  bD : Binds K dD ["_law_tape_here", "_law_many"] []
  bW : Binds K dW ["_law_tape_here", "_law_many"] []
  bS : Binds K dS ["_law_tape_here", "_law_names", "_law_left", "_law_deep"] []
  bB : Binds K dB ["_law_tape_here", "_law_thing"] []
  bL : Binds K dL ["_law_tape_here", "_law_name"] []
  bC : Binds K dC ["_law_thing", "_law_deep"] []
  bI : Binds K dI ["thing"] []
  mr : mg "range" = none
  mi : mg "isinstance" = none
  mbool : mg "bool" = none
def Gk (K : PySem.W.Frag) (H : Hp) (v : V) : Prop := ∃ d, Dp K H v d ∧ Ok d
theorem gk_seq {K : PySem.W.Frag} {H H' : Hp} {v : V} (e : SeqK H H') (h : Gk K H v) : Gk K H' v := by
  obtain ⟨d, h1, h2⟩ := h
  exact ⟨d, dp_seq e h1, h2⟩
def spLaw (K : PySem.W.Frag) : Sp := fun vs H Q _ => ∃ (a : Addr) (ns : List Int), vs = [.ref a] ∧ SqL K H a (ns.map V.int) ∧ ∀ H', Q (.bl true) H'
section
variable {P : Program} {w : World} {K : PySem.W.Frag} {mg : Str → Option Value} {base : Heap} {f fT fD fW fS fB fL fC fI : Addr} {fd dT dD dW dS dB dL dC dI : FuncData}
theorem ok_law (F0 : FnP K "law" sLaw f fd) (C : Defs P w K mg base fT fD fW fS fB fL fC fI dT dD dW dS dB dL dC dI) : FnOk P w K mg base CX0 43 f fd ["_law_script"] (spLaw K) := by
  refine F0.ok scLaw (fun vs H Q E h => ?_) (fun cdv A outer s H vs Q E hr h => ?_)
  · obtain ⟨a, ns, rfl, _⟩ := h
    rfl
  obtain ⟨a0, ns, rfl, hS, q⟩ := h
  have hr1 : Room 1 _ := hr.mono (by omega)
  have hr3 : Room 3 _ := hr.mono (by omega)
  have hr11 : Room 11 _ := hr.mono (by omega)
  have hr12 : Room 12 _ := hr.mono (by omega)
  have hr26 : Room 26 _ := hr.mono (by omega)
  have hr37 : Room 37 _ := hr.mono (by omega)
  refine ⟨_, PSs.nox (pss_cons (ps_set (i := 1) scLaw.nd rfl (Or.inl rfl) (pe_call C.GT hr1 (by rfl) C.gT C.kT C.bT .nil pass0 (pa_cons (pv 0) pa_nil)))
 (pss_cons (ps_set (i := 2) scLaw.nd rfl (Or.inl rfl) (pe_call C.GW hr12 (by rfl) C.gW C.kW C.bW .nil pass0 (pa_cons (pv 1) (pa_cons pe_int pa_nil))))
 (pss_cons (ps_for PassesOwn.never rfl (pi_range1 (by rfl) C.mr (pa_cons pe_int pa_nil)) (pg_name (i := 3) scLaw.nd rfl (Or.inl rfl))
 (pss_cons (ps_set (i := 4) scLaw.nd rfl (Or.inl rfl) (pe_call C.GS hr37 (by rfl) C.gS C.kS C.bS .nil pass0 (pa_cons (pv 1) (pa_cons (pv 2) (pa_cons (pe_lst (pa_cons (pe_ix ix_list (pe_lst (pa_cons pe_int (pa_cons pe_int (pa_cons pe_int pa_nil)))) (pe_call C.GD hr11 (by rfl) C.gD C.kD C.bD .nil pass0 (pa_cons (pv 1) (pa_cons pe_int pa_nil))) (fun _ _ => rfl)) pa_nil)) (pa_cons pe_int pa_nil))))))
 (pss_cons (ps_set (i := 5) scLaw.nd rfl (Or.inl rfl) (pe_lst (pa_cons (pv 4) (pa_cons (pe_call C.GB hr (by rfl) C.gB C.kB C.bB .nil pass0 (pa_cons (pv 1) (pa_cons (pv 4) pa_nil))) (pa_cons (pe_call C.GL hr12 (by rfl) C.gL C.kL C.bL .nil pass0 (pa_cons (pv 1) (pa_cons (pe_ix ix_list (pv 2) pe_int (fun _ _ => rfl)) pa_nil))) (pa_cons (pe_call C.GB hr (by rfl) C.gB C.kB C.bB .nil pass0 (pa_cons (pv 1) (pa_cons (pe_call C.GB hr (by rfl) C.gB C.kB C.bB .nil pass0 (pa_cons (pv 1) (pa_cons (pv 4) pa_nil))) pa_nil))) pa_nil))))))
 (pss_one (ps_for PassesOwn.never rfl (pi_list (pe_op op_cat (pv 5) (pe_lst (pa_cons pe_non (pa_cons pe_int (pa_cons pe_str (pa_cons pe_bl (pa_cons (pe_lst (pa_cons (pv 4) pa_nil)) (pa_cons (pe_ix ix_list (pv 2) pe_int (fun _ _ => rfl)) pa_nil))))))))) (pg_name (i := 6) scLaw.nd rfl (Or.inl rfl))
 (pss_cons (ps_set (i := 7) scLaw.nd rfl (Or.inl rfl) (pe_call C.GI hr3 (by rfl) C.gI C.kI C.bI .nil pass0 (pa_cons (pv 6) pa_nil)))
 (pss_one (ps_if (PW.pt (pw_or (pt_not (pt_val (pe_callB call_isi (by rfl) C.mi (by decide +kernel) (pa_cons (pv 7) (pa_cons (pe_bltn (v := V.ty "bool") (by rfl) C.mbool (by decide +kernel) rfl) pa_nil))))) (pw_or1 (pt_cmpR op_ne (pv 7) (pe_cmpR op_le (pe_call C.GC hr26 (by rfl) C.gC C.kC C.bC .nil pass0 (pa_cons (pv 6) (pa_cons pe_int pa_nil))) pe_int (nomark _)) (nomark _)))))
 (pss_one (ps_ret pe_bl)) pss_nil))))))))
 (pss_one (ps_ret pe_bl))))), ?_⟩
  have hsm : ∀ n : Nat, n ≤ 1000 → n ≤ sizeLine := fun n h => small h
  refine ⟨_, rfl, a0, ns, rfl, hS, fun H1 T L t1 s1 _ _ => ?_⟩
  refine ⟨_, rfl, T, L, 4, 0, rfl, by decide, by decide, t1, fun H2 N ws hl hw eN _ t2 k2 => ?_⟩
  obtain ⟨z, ws', rfl⟩ : ∃ z r, ws = z :: r := by
    cases ws with
    | nil => cases hl
    | cons z r => exact ⟨z, r, rfl⟩
  refine ⟨4, rfl, by decide, by decide, for_range (lo := 0) (n := (4 : Int).toNat) (fun i σ H' => ∃ (v1 v2 v3 v4 v5 : Option V),
    σ = [some (.ref a0), some (.ref T), some (.ref N), v1, v2, v3, v4, v5] ∧ H' N = some (.lst ((z :: ws').map V.str)) ∧ Tape H' T L (1000 + 15000 * i)) ?_ ?_ ?_⟩
  · exact ⟨_, _, _, _, _, rfl, eN, t2.more (by omega)⟩
  · rintro i σ H3 hi ⟨v1, v2, v3, v4, v5, rfl, eN3, t3⟩
    have hi4 : i < 4 := hi
    -- a saying
    refine ⟨_, rfl, _, rfl, hsm 3 (by decide), fun pc nc => ?_⟩
    have sc := same_new nc (.lst [.int 12, .int 60, .int 300])
    have ec : (upd H3 pc (.lst [.int 12, .int 60, .int 300])) pc = some (.lst [.int 12, .int 60, .int 300]) := upd_same
    have eN4 := sc _ _ eN3
    have t4 := t3.same sc
    generalize upd H3 pc (.lst [.int 12, .int 60, .int 300]) = H4 at sc ec eN4 t4 ⊢
    refine ⟨_, rfl, T, L, 3, _, rfl, by decide, by decide, by omega, t4, fun H5 r r0 r1 t5 k5 => ?_⟩
    have ec5 := k5 _ _ ec (nT_of t4 ec)
    have eN5 := k5 _ _ eN4 (nT_of t4 eN4)
    obtain ⟨l, hl1, hl0, hl3⟩ : ∃ l : Int, atI [V.int 12, V.int 60, V.int 300] r = some (.int l) ∧ 0 ≤ l ∧ l ≤ 300 := by
      have c3 : r = 0 ∨ r = 1 ∨ r = 2 := by omega
      rcases c3 with rfl | rfl | rfl <;> exact ⟨_, rfl, by decide, by decide⟩
    refine ⟨pc, _, _, _, rfl, rfl, SqL.of ec5, hl1, hsm 1 (by decide), fun F nF => ?_⟩
    have sF := same_new nF (.lst [.int l])
    have eF : (upd H5 F (.lst [.int l])) F = some (.lst [.int l]) := upd_same
    have eN6 := sF _ _ eN5
    have t6 := t5.same sF
    have nFL : F ≠ L := t5.nL nF
    have nNF : N ≠ F := fun e => by
      rw [e, nF] at eN5
      cases eN5
    generalize upd H5 F (.lst [.int l]) = H6 at sF eF eN6 t6 ⊢
    refine ⟨T, L, N, F, z :: ws', l, _, 25, rfl, by decide, by decide, ⟨t6, eF, nFL⟩, hl0, eN6, by simp, by rw [hl]; decide, hw, by omega, fun H7 a d l' l0 l1 w7 k7 tt ft => ?_⟩
    have eN7 := k7 _ _ eN6 (nT_of t6 eN6) nNF
    have t7 : Tape H7 T L (1000 + 15000 * (i : Int) + 11 + 33 * 301) := w7.t.more (by omega)
    have fz : z.length ≤ 1000 := Nat.le_trans (hw z List.mem_cons_self) (by decide)
    have az : atI ((z :: ws').map V.str) 0 = some (.str z) := at0
    -- the things
    refine ⟨_, rfl, _, rfl, _, rfl, T, L, .ref a, d, 3, 27, _, rfl, by decide, by decide, by decide, tt_dp tt, ft, t7, by omega, fun H8 u1 d1 t8 k8 p1 f1 => ?_⟩
    have q8 := seqK_keep t7 k8
    have eN8 := k8 _ _ eN7 (nT_of t7 eN7)
    have t8' : Tape H8 T L (1000 + 15000 * (i : Int) + 11 + 33 * 301 + 924) := t8.more (by omega)
    refine ⟨_, rfl, _, rfl, N, _, _, _, rfl, rfl, SqL.of eN8, az, T, L, z, _, rfl, fz, by omega, t8', fun H9 u2 t9 k9 p2 => ?_⟩
    have q9 := seqK_keep t8' k9
    have eN9 := k9 _ _ eN8 (nT_of t8' eN8)
    refine ⟨_, rfl, _, rfl, _, rfl, T, L, .ref a, d, 3, 27, _, rfl, by decide, by decide, by decide, dp_seq (q8.trans q9) (tt_dp tt), ft, t9, by omega, fun Ha u3 d3 ta ka p3 f3 => ?_⟩
    have qa := seqK_keep t9 ka
    have eNa := ka _ _ eN9 (nT_of t9 eN9)
    have ta' : Tape Ha T L (1000 + 15000 * (i : Int) + 11 + 33 * 301 + 924 + 400 + 924) := ta.more (by omega)
    refine ⟨T, L, u3, d3, 4, 29, _, rfl, by decide, by decide, by decide, p3, f3, ta', by omega, fun Hb u4 d4 tb kb p4 f4 => ?_⟩
    have qb := seqK_keep ta' kb
    have eNb := kb _ _ eNa (nT_of ta' eNa)
    have tb' : Tape Hb T L (1000 + 15000 * (i : Int) + 11 + 33 * 301 + 924 + 400 + 924 + 990) := tb.more (by omega)
    have g0 : Gk K Hb (.ref a) := ⟨d, dp_seq (((q8.trans q9).trans qa).trans qb) (tt_dp tt), 27, fits_mono (by decide) (Nat.le_refl _) ft⟩
    have g1 : Gk K Hb u1 := ⟨d1, dp_seq ((q9.trans qa).trans qb) p1, 29, fits_mono (by decide) (Nat.le_refl _) f1⟩
    have g2 : Gk K Hb u2 := by
      obtain ⟨n, e, h1, h2⟩ := p2
      exact ⟨e, dp_seq (qa.trans qb) (tt_dp h1), n, fits_mono (by decide) (Nat.le_refl _) h2⟩
    have g4 : Gk K Hb u4 := ⟨d4, p4, 31, fits_mono (by decide) (Nat.le_refl _) f4⟩
    clear p1 p2 p3 p4
    refine ⟨hsm 4 (by decide), fun p5 n5 => ?_⟩
    have s5 := same_new n5 (.lst [.ref a, u1, u2, u4])
    have e5 : (upd Hb p5 (.lst [.ref a, u1, u2, u4])) p5 = some (.lst [.ref a, u1, u2, u4]) := upd_same
    have eN5' := s5 _ _ eNb
    have t5' := tb'.same s5
    generalize upd Hb p5 (.lst [.ref a, u1, u2, u4]) = G5 at s5 e5 eN5' t5' ⊢
    refine ⟨_, rfl, _, rfl, hsm 1 (by decide), fun p6 n6 => ?_⟩
    have s6 := same_new n6 (.lst [.ref a])
    have e6 : (upd G5 p6 (.lst [.ref a])) p6 = some (.lst [.ref a]) := upd_same
    have eN6' := s6 _ _ eN5'
    have e56 := s6 _ _ e5
    have t6' := t5'.same s6
    generalize upd G5 p6 (.lst [.ref a]) = G6 at s6 e6 eN6' e56 t6' ⊢
    refine ⟨_, rfl, N, _, _, _, rfl, rfl, SqL.of eN6', az, hsm 6 (by decide), fun p7 n7 => ?_⟩
    have s7 := same_new n7 (.lst [.non, .int 7, .str "yes", .bl true, .ref p6, .str z])
    have e7 : (upd G6 p7 (.lst [.non, .int 7, .str "yes", .bl true, .ref p6, .str z])) p7 = some (.lst [.non, .int 7, .str "yes", .bl true, .ref p6, .str z]) := upd_same
    have e57 := s7 _ _ e56
    have e67 := s7 _ _ e6
    have eN7' := s7 _ _ eN6'
    have t7' := t6'.same s7
    generalize upd G6 p7 (.lst [.non, .int 7, .str "yes", .bl true, .ref p6, .str z]) = G7 at s7 e7 e57 e67 eN7' t7' ⊢
    refine ⟨p5, p7, _, _, rfl, rfl, e57, e7, hsm 10 (by decide), fun p8 n8 => ?_⟩
    have s8 := same_new n8 (.lst ([.ref a, u1, u2, u4] ++ [.non, .int 7, .str "yes", .bl true, .ref p6, .str z]))
    have e8 : (upd G7 p8 (.lst ([.ref a, u1, u2, u4] ++ [.non, .int 7, .str "yes", .bl true, .ref p6, .str z]))) p8 = some (.lst [.ref a, u1, u2, u4, .non, .int 7, .str "yes", .bl true, .ref p6, .str z]) := upd_same
    have e68 := s8 _ _ e67
    have eN8' := s8 _ _ eN7'
    have t8'' := t7'.same s8
    generalize upd G7 p8 (.lst ([.ref a, u1, u2, u4] ++ [.non, .int 7, .str "yes", .bl true, .ref p6, .str z])) = G8 at s8 e8 e68 eN8' t8'' ⊢
    have sb8 := ((s5.trans s6).trans s7).trans s8
    have all : ∀ v ∈ [V.ref a, u1, u2, u4, .non, .int 7, .str "yes", .bl true, .ref p6, .str z], Gk K G8 v := fun v hv => by
      rcases List.mem_cons.mp hv with rfl | hv
      · exact gk_seq (SeqK.of sb8) g0
      rcases List.mem_cons.mp hv with rfl | hv
      · exact gk_seq (SeqK.of sb8) g1
      rcases List.mem_cons.mp hv with rfl | hv
      · exact gk_seq (SeqK.of sb8) g2
      rcases List.mem_cons.mp hv with rfl | hv
      · exact gk_seq (SeqK.of sb8) g4
      rcases List.mem_cons.mp hv with rfl | hv
      · exact ⟨_, .non, 0, trivial⟩
      rcases List.mem_cons.mp hv with rfl | hv
      · exact ⟨_, .int _, 0, trivial⟩
      rcases List.mem_cons.mp hv with rfl | hv
      · exact ⟨_, .str _, 0, fits_str (by decide)⟩
      rcases List.mem_cons.mp hv with rfl | hv
      · exact ⟨_, .bl _, 0, trivial⟩
      rcases List.mem_cons.mp hv with rfl | hv
      · obtain ⟨e, h1, n, h2⟩ := gk_seq (SeqK.of sb8) g0
        exact ⟨.list [e], .lst (SqL.of e68) (.cons h1 .nil), n + 1, by show 1 ≤ 9; decide, fun c hc => by rw [List.mem_singleton.mp hc]; exact h2⟩
      · rw [List.mem_singleton.mp hv]
        exact ⟨_, .str _, 0, fits_str fz⟩
    generalize hxs : [V.ref a, u1, u2, u4, .non, .int 7, .str "yes", .bl true, .ref p6, .str z] = xs at e8 all
    refine ⟨p8, rfl, ⟨_, SqL.of e8⟩, for_it (walk_list (K := K) (a := p8) (xs := xs)) (fun j σ H' => ∃ (v6 v7 : Option V), σ = [some (.ref a0), some (.ref T), some (.ref N), some (.int (0 + (i : Nat))), some (.ref a), some (.ref p5), v6, v7] ∧ Same G8 H') ?_ ?_ ?_ ?_⟩
    · exact ⟨_, _, rfl, Same.refl _⟩
    · rintro j σ H' _ ⟨_, _, _, s9⟩
      exact SqL.of (s9 _ _ e8)
    · rintro j x σ Hx H9 hj ⟨v6, v7, rfl, s9⟩ ⟨rfl, hx⟩
      obtain ⟨dx, hdx, hox⟩ := all x (List.mem_of_getElem? hx)
      refine ⟨_, rfl, x, dx, rfl, dp_same s9 hdx, hox, fun H10 s10 => ?_⟩
      refine ⟨_, rfl, .bl _, .ty "bool", _, _, _, rfl, .ty _, .base (.bl _), kit_ty (by decide +kernel : kitB "bool" "bool" = some true), _, rfl, ?_⟩
      refine iteF ?_
      refine ⟨_, rfl, _, rfl, x, dx, 25, rfl, by decide, by decide, dp_same (s9.trans s10) hdx, hox, fun H11 s11 => ?_⟩
      refine ⟨_, _, rfl, rfl, rfl, _, rfl, ?_⟩
      have ed : decide (((cnt 25 dx : Nat) : Int) ≤ 400) = decide (cnt 25 dx ≤ 400) := by
        rw [decide_eq_decide]
        omega
      have en : (!decide (V.bl (decide (cnt 25 dx ≤ 400)) = V.bl (decide (((cnt 25 dx : Nat) : Int) ≤ 400)))) = false := by
        rw [ed, decide_eq_true rfl]
        rfl
      rw [en]
      refine iteF ?_
      exact ⟨_, _, rfl, (s9.trans s10).trans s11⟩
    · rintro σ H' ⟨v6, v7, rfl, s9⟩
      exact ⟨_, _, _, _, _, rfl, s9 _ _ eN8', (t8''.same s9).more (by omega)⟩
  · rintro σ H3 ⟨v1, v2, v3, v4, v5, rfl, eN3, t3⟩
    exact q H3
end
end My

set_option maxRecDepth 100000
set_option maxHeartbeats 0
namespace My
open PySem PySem.Spec PyProof.Rows L2 XE
/-! ### a table of the top with text keys, asked for any text -/
theorem dicW_at {K : PySem.W.Frag} {w : World} {a : Addr} {es : Array DictEntry} {n : Nat} (D : KDict K w a es n) : He.dicW K a = some (es.toList.map He.keyOf) := by
  unfold He.dicW
  rw [D.at_]
  show (match decide (("dict" : String) = "dict") && ((#[] : Array (Option Value)).isEmpty && !(a == sysModules)) with
    | true => some (es.toList.map He.keyOf)
    | false => none) = _
  rw [D.low]
  rfl
theorem miss {P : Params} {z : Str} : ∀ {l : List DictEntry} {ks : List Str}, l.map He.keyOf = He.keysIn P ks → z ∉ ks → l.find? (fun e => e.key.isStr z) = none ∧ l.any (fun e => e.refKey) = false
  | [], _, _, _ => ⟨rfl, rfl⟩
  | e :: r, [], h, _ => by cases h
  | e :: r, k :: ks, h, hz => by
    have h1 : He.keyOf e :: r.map He.keyOf = some (k, PyData.keyHash P k) :: He.keysIn P ks := h
    injection h1 with h2 h3
    obtain ⟨i1, i2⟩ := miss h3 (fun m => hz (List.mem_cons_of_mem _ m))
    have hk : ∃ t, e.key = .str k t := by
      unfold He.keyOf at h2
      split at h2
      · rename_i x t q
        have h4 := Option.some.inj h2
        obtain ⟨h5, h6⟩ := Prod.mk.inj h4
        exact ⟨t, by rw [q, h5]⟩
      · cases h2
    obtain ⟨t, hk⟩ := hk
    have hne : e.key.isStr z = false := by
      rw [hk]
      show decide (k = z) = false
      exact decide_eq_false (fun y => hz (y ▸ List.mem_cons_self))
    refine ⟨?_, ?_⟩
    · rw [List.find?_cons, hne]
      exact i1
    · rw [List.any_cons, i2, Bool.or_false]
      unfold DictEntry.refKey
      rw [hk]
def lkeys : List Str := ["yes", "no", "name", "not", "and", "or", "if", "same"]
def lkv : List (Str × He.Dv) := [("yes", .int 1), ("no", .int 1), ("name", .int 2), ("not", .int 2), ("and", .int 3), ("or", .int 3), ("if", .int 3), ("same", .int 3)]
theorem lens_none {z : Str} (h : z ∉ lkeys) : lensV z = .non := by
  have n : ∀ k, k ∈ lkeys → ¬ z = k := fun k hk e => h (e ▸ hk)
  unfold lensV lens
  rw [if_neg (n _ (by decide)), if_neg (n _ (by decide)), if_neg (n _ (by decide)), if_neg (n _ (by decide)), if_neg (n _ (by decide)), if_neg (n _ (by decide)), if_neg (n _ (by decide)), if_neg (n _ (by decide))]
theorem lens_some {z : Str} (h : z ∈ lkeys) : ∃ d : He.Dv, (z, d) ∈ lkv ∧ ∀ K, d.v K = lensV z := by
  have h8 : z = "yes" ∨ z = "no" ∨ z = "name" ∨ z = "not" ∨ z = "and" ∨ z = "or" ∨ z = "if" ∨ z = "same" := by
    simpa [lkeys] using h
  rcases h8 with rfl | rfl | rfl | rfl | rfl | rfl | rfl | rfl
  · exact ⟨.int 1, by simp [lkv], fun K => by rfl⟩
  · exact ⟨.int 1, by simp [lkv], fun K => by rfl⟩
  · exact ⟨.int 2, by simp [lkv], fun K => by rfl⟩
  · exact ⟨.int 2, by simp [lkv], fun K => by rfl⟩
  · exact ⟨.int 3, by simp [lkv], fun K => by rfl⟩
  · exact ⟨.int 3, by simp [lkv], fun K => by rfl⟩
  · exact ⟨.int 3, by simp [lkv], fun K => by rfl⟩
  · exact ⟨.int 3, by simp [lkv], fun K => by rfl⟩
def bnames : List He.Dv := [.str "not", .str "and", .str "or", .str "gives", .str "is", .str "yes", .str "no"]
def aL (K : PySem.W.Frag) : Addr := He.ga K "LENGTHS"
def exK (K : PySem.W.Frag) : Bool := He.tupB K "BARRED" bnames && He.valsB K (aL K) lkv
def dd (x : Str) (i : Nat) : He.DefD := ⟨(x, none), x, x, defArgs (top i), defBody (top i), defScope (top i), [], []⟩
def fn : List He.DefD := [dd "is_word" 4, dd "parts_of" 9, dd "_has_form" 10, dd "is_saying" 11, dd "_law_tape" 13, dd "_law_draw" 14, dd "_law_words" 15, dd "_law_saying" 16, dd "_law_counted" 17, dd "_law_other" 18, dd "_law_bent" 19, dd "_law_long" 20, dd "law" 21]
def fa : List He.Fa := [.glo "is_word", .glo "parts_of", .glo "_has_form", .glo "is_saying", .glo "_law_tape", .glo "_law_draw", .glo "_law_words", .glo "_law_saying", .glo "_law_counted", .glo "_law_other", .glo "_law_bent", .glo "_law_long", .glo "law",
  .int "MOST_LETTERS" 8, .int "MOST_PARTS" 400, .int "MOST_WITHIN" 25, .str "SMALL_LETTERS" abc, .glo "BARRED", .glo "LENGTHS",
  .free "len", .free "range", .free "isinstance", .free "str", .free "tuple", .free "all", .free "sum", .free "min", .free "int", .free "list", .free "bool"]
def ts : List He.Tab := [(aL, lkeys)]
abbrev R : PySem.W.OpenRow := PySem.W.OpenLaw.row PySem.Challenge.rw_middlesay_k01_sayings_or_not
def hookM : PySem.W.Hook := He.hookX 5 fa fn ts [] exK
def ob (s : PySem.W.SharedT) : hookM.α := He.obsX 5 fa fn ts [] exK (HandSHeadRun.getT s)
theorem ob_eq (s : PySem.W.SharedT) : ob s = hookM.obs s.abs := He.obsX_eq (fun a => HandSHeadRun.getT_eq s a)
abbrev loose : List Str := ["SMALL_LETTERS", "MOST_LETTERS", "BARRED", "is_word", "MOST_PARTS", "MOST_WITHIN", "LENGTHS", "parts_of", "_has_form", "is_saying", "_law_tape", "_law_draw", "_law_words", "_law_saying", "_law_counted", "_law_other", "_law_bent", "_law_long"]
theorem run (w : World) : HandSHeadRun.RunEq R (PySem.W.view R.prog [21]) hookM ob 4000 loose w := by
  refine PySem.W.byRow2 "special-get-raises" (P := fun w => HandSHeadRun.RunEq R (PySem.W.view R.prog [21]) hookM ob 4000 loose w) ?_ ?_ w
  · intro w os
    kernel_rfl
  · intro w os
    kernel_rfl
end My

set_option maxRecDepth 100000
set_option maxHeartbeats 0
namespace My
open PySem PySem.Spec PyProof.Rows L2 XE
theorem at_lens {K : PySem.W.Frag} {w : World} {es : Array DictEntry} {n : Nat} (D : KDict K w (aL K) es n) (e : He.dicW K (aL K) = some (He.keysIn w.params lkeys)) (v : He.valsB K (aL K) lkv = true) (z : Str) : ∃ r, PySem.W.nsIn K (aL K) z = some r ∧ RelV (lensV z) (r.getD .none) := by
  by_cases h : z ∈ lkeys
  · obtain ⟨d, hd, hv⟩ := lens_some h
    obtain ⟨u, e1, e2⟩ := He.valsB_ok v hd
    refine ⟨some u, e1, ?_⟩
    rw [← hv K]
    exact e2
  · have e2 := Option.some.inj ((dicW_at D).symm.trans e)
    obtain ⟨h1, h2⟩ := miss e2 h
    refine ⟨none, ?_, ?_⟩
    · unfold PySem.W.nsIn
      rw [D.at_]
      dsimp only
      rw [h1]
      dsimp only
      rw [h2]
      rfl
    · rw [lens_none h]
      rfl
theorem facts {P : Program} {w : World} {K : PySem.W.Frag} {h : Heap} {mg : Str → Option Value} {f : Addr} (X : K.In h) (G : h.Ns mainGlobals mg) (hfa : mg ("law" : Str) = some (.ref f)) (c : He.SaysX fa fn ts [] exK w h K) :
    ∃ fd : FuncData, (∀ (s : Shared) (v : Value), BindsTo s fd ⟨[v], []⟩ [("_law_script", v)]) ∧ ∀ base : Heap, K.In base → base.Ns mainGlobals mg → FnOk P w K mg base CX0 43 f fd ["_law_script"] (spLaw K) := by
  have cd : He.SaysD fa fn K := c.t.d
  obtain ⟨es, n, D⟩ := c.t.tab 0 (t := (aL, lkeys)) rfl
  have eT : He.dicW K (aL K) = some (He.keysIn w.params lkeys) := by
    have e : ts.map (fun t => He.dicW K (t.1 K)) = ts.map fun t => some (He.keysIn w.params t.2) := congrArg (fun z : He.AlT => z.2) c.t
    exact (List.cons.inj e).1
  obtain ⟨cB, cV⟩ := He.ba c.more
  have g : ∀ {x : Str} (i : Nat), fa[i]? = some (.glo x) → mg x = some (.ref (He.ga K x)) := fun i e => He.glo_ok X G (cd.fact i e)
  have fr : ∀ {x : Str} (i : Nat), fa[i]? = some (.free x) → mg x = none := fun i e => He.free_ok X G (cd.fact i e)
  obtain ⟨dWo, FWo⟩ := cd.def_ 0 (d := dd "is_word" 4) rfl
  obtain ⟨dPa, FPa⟩ := cd.def_ 1 (d := dd "parts_of" 9) rfl
  obtain ⟨dFo, FFo⟩ := cd.def_ 2 (d := dd "_has_form" 10) rfl
  obtain ⟨dI, FI⟩ := cd.def_ 3 (d := dd "is_saying" 11) rfl
  obtain ⟨dT, FT⟩ := cd.def_ 4 (d := dd "_law_tape" 13) rfl
  obtain ⟨dD, FD⟩ := cd.def_ 5 (d := dd "_law_draw" 14) rfl
  obtain ⟨dW, FW⟩ := cd.def_ 6 (d := dd "_law_words" 15) rfl
  obtain ⟨dS, FS⟩ := cd.def_ 7 (d := dd "_law_saying" 16) rfl
  obtain ⟨dC, FC⟩ := cd.def_ 8 (d := dd "_law_counted" 17) rfl
  obtain ⟨dO, FO⟩ := cd.def_ 9 (d := dd "_law_other" 18) rfl
  obtain ⟨dB, FB⟩ := cd.def_ 10 (d := dd "_law_bent" 19) rfl
  obtain ⟨dL, FL⟩ := cd.def_ 11 (d := dd "_law_long" 20) rfl
  obtain ⟨fd, F⟩ := cd.def_ 12 (d := dd "law" 21) rfl
  have e := hfa.symm.trans (g (x := "law") 12 rfl)
  cases e
  have b := FunD.bindsA (ps := ["_law_script"]) F fun _ _ _ _ _ _ us hl => match us, hl with | [_], _ => rfl
  have bWo : Binds K dWo ["thing"] [] := FWo.bindsN fun _ _ _ _ _ _ us hl => match us, hl with | [_], _ => rfl
  have bPa : Binds K dPa ["saying"] [] := FPa.bindsN fun _ _ _ _ _ _ us hl => match us, hl with | [_], _ => rfl
  have bFo : Binds K dFo ["thing"] [] := FFo.bindsN fun _ _ _ _ _ _ us hl => match us, hl with | [_], _ => rfl
  have bI : Binds K dI ["thing"] [] := FI.bindsN fun _ _ _ _ _ _ us hl => match us, hl with | [_], _ => rfl
  have bT : Binds K dT ["_law_script"] [] := FT.bindsN fun _ _ _ _ _ _ us hl => match us, hl with | [_], _ => rfl
  have bD : Binds K dD ["_law_tape_here", "_law_many"] [] := FD.bindsN fun _ _ _ _ _ _ us hl => match us, hl with | [_, _], _ => rfl
  have bW : Binds K dW ["_law_tape_here", "_law_many"] [] := FW.bindsN fun _ _ _ _ _ _ us hl => match us, hl with | [_, _], _ => rfl
  have bS : Binds K dS ["_law_tape_here", "_law_names", "_law_left", "_law_deep"] [] := FS.bindsN fun _ _ _ _ _ _ us hl => match us, hl with | [_, _, _, _], _ => rfl
  have bC : Binds K dC ["_law_thing", "_law_deep"] [] := FC.bindsN fun _ _ _ _ _ _ us hl => match us, hl with | [_, _], _ => rfl
  have bO : Binds K dO ["_law_tape_here", "_law_part"] [] := FO.bindsN fun _ _ _ _ _ _ us hl => match us, hl with | [_, _], _ => rfl
  have bB : Binds K dB ["_law_tape_here", "_law_thing"] [] := FB.bindsN fun _ _ _ _ _ _ us hl => match us, hl with | [_, _], _ => rfl
  have bL : Binds K dL ["_law_tape_here", "_law_name"] [] := FL.bindsN fun _ _ _ _ _ _ us hl => match us, hl with | [_, _], _ => rfl
  have gWo := g (x := "is_word") 0 rfl
  have gPa := g (x := "parts_of") 1 rfl
  have gFo := g (x := "_has_form") 2 rfl
  have gI := g (x := "is_saying") 3 rfl
  have gT := g (x := "_law_tape") 4 rfl
  have gD := g (x := "_law_draw") 5 rfl
  have gW := g (x := "_law_words") 6 rfl
  have gS := g (x := "_law_saying") 7 rfl
  have gC := g (x := "_law_counted") 8 rfl
  have gO := g (x := "_law_other") 9 rfl
  have gB := g (x := "_law_bent") 10 rfl
  have gL := g (x := "_law_long") 11 rfl
  have iML := He.int_ok X G (x := "MOST_LETTERS") (i := 8) (cd.fact 13 rfl)
  have iMP := He.int_ok X G (x := "MOST_PARTS") (i := 400) (cd.fact 14 rfl)
  have iMW := He.int_ok X G (x := "MOST_WITHIN") (i := 25) (cd.fact 15 rfl)
  have iSL := He.str_ok X G (x := "SMALL_LETTERS") (z := abc) (cd.fact 16 rfl)
  have gBA := g (x := "BARRED") 17 rfl
  have gLE := g (x := "LENGTHS") 18 rfl
  have ml := fr (x := "len") 19 rfl
  have mr := fr (x := "range") 20 rfl
  have mi := fr (x := "isinstance") 21 rfl
  have mstr := fr (x := "str") 22 rfl
  have mtuple := fr (x := "tuple") 23 rfl
  have ma := fr (x := "all") 24 rfl
  have ms := fr (x := "sum") 25 rfl
  have mmin := fr (x := "min") 26 rfl
  have mint := fr (x := "int") 27 rfl
  have mlist := fr (x := "list") 28 rfl
  have mbool := fr (x := "bool") 29 rfl
  have TX : Txt K w mg (He.ga K "BARRED") (aL K) (He.ga K "is_word") dWo es n :=
    { gML := iML, gSL := iSL, gB := gBA, bB := fun H => He.tupB_ok cB H, gLE := gLE, D := D, at_ := at_lens D eT cV, gW := gWo, kW := FWo.kp, bW := bWo, mstr := mstr, mtuple := mtuple, mi := mi, ma := ma, ml := ml }
  refine ⟨fd, fun s v => b s [v] rfl, fun base _ _ => ?_⟩
  have OWo : FnOk P w K mg base CX0 1 (He.ga K "is_word") dWo ["thing"] (spWord K) := ok_word (k := 0) FWo TX
  have OFo : FnOk P w K mg base CX0 2 (He.ga K "_has_form") dFo ["thing"] (spForm K) := ok_form (k := 0) FFo OWo TX
  have OPa : FnOk P w K mg base CX0 1 (He.ga K "parts_of") dPa ["saying"] (spParts K) := ok_parts (k := 0) FPa
  have U : Use mg K (He.ga K "_has_form") (He.ga K "parts_of") dFo dPa := { gMP := iMP, gMW := iMW, gF := gFo, kF := FFo.kp, bF := bFo, gP := gPa, kP := FPa.kp, bP := bPa }
  have OI : FnOk P w K mg base CX0 3 (He.ga K "is_saying") dI ["thing"] (spSaying K) := ok_is_saying (k := 3) FI OFo OPa U
  have OT : FnOk P w K mg base CX0 1 (He.ga K "_law_tape") dT ["_law_script"] (spTape K) := ok_tape (k := 0) FT
  have OD : FnOk P w K mg base CX0 11 (He.ga K "_law_draw") dD ["_law_tape_here", "_law_many"] (spDraw 11) := all_draw FD bD gD ml 11 (by decide)
  have OW : FnOk P w K mg base CX0 12 (He.ga K "_law_words") dW ["_law_tape_here", "_law_many"] (spWords K) := ok_words (k := 11) (by decide) FW OD bD gD FD.kp mr
  have OS : FnOk P w K mg base CX0 37 (He.ga K "_law_saying") dS ["_law_tape_here", "_law_names", "_law_left", "_law_deep"] (spSay 26) :=
    all_say FS OD { gD := gD, kD := FD.kp, bD := bD, gS := gS, kS := FS.kp, bS := bS, ml := ml, mmin := mmin, mint := mint } 26
  have OC : FnOk P w K mg base CX0 26 (He.ga K "_law_counted") dC ["_law_thing", "_law_deep"] (spCounted K 26) :=
    all_counted FC { gR := gC, kR := FC.kp, bR := bC, mstr := mstr, mtuple := mtuple, mi := mi, ma := ma, ms := ms, ml := ml } 26
  have OO : FnOk P w K mg base CX0 12 (He.ga K "_law_other") dO ["_law_tape_here", "_law_part"] (spOther K) := ok_other FO OD { gD := gD, kD := FD.kp, bD := bD, ml := ml }
  have OB : FnOk P w K mg base CX0 42 (He.ga K "_law_bent") dB ["_law_tape_here", "_law_thing"] (spBent K 30) :=
    all_bent FB OD OO { gD := gD, kD := FD.kp, bD := bD, gO := gO, kO := FO.kp, bO := bO, gB := gB, kB := FB.kp, bB := bB, ml := ml, mi := mi, mtuple := mtuple, mlist := mlist } 30
  have OL : FnOk P w K mg base CX0 12 (He.ga K "_law_long") dL ["_law_tape_here", "_law_name"] spLong := ok_long FL OD { gD := gD, kD := FD.kp, bD := bD, ml := ml, mr := mr }
  exact ok_law F { GT := OT, GD := OD, GW := OW, GS := OS, GB := OB, GL := OL, GC := OC, GI := OI, gT := gT, gD := gD, gW := gW, gS := gS, gB := gB, gL := gL, gC := gC, gI := gI, kT := FT.kp, kD := FD.kp, kW := FW.kp, kS := FS.kp, kB := FB.kp, kL := FL.kp, kC := FC.kp, kI := FI.kp, bT := bT, bD := bD, bW := bW, bS := bS, bB := bB, bL := bL, bC := bC, bI := bI, mr := mr, mi := mi, mbool := mbool }
end My
open PySem PySem.W PySem.Calls PyProof.Rows
theorem PySem.Challenge.cw_middlesay_k01_sayings_or_not_holds : PySem.Challenge.rw_middlesay_k01_sayings_or_not.Holds := by
  w_on; o_law
  refine HandSHeadRun.head_any (r := OpenLaw.row PySem.Challenge.rw_middlesay_k01_sayings_or_not) (q := view (OpenLaw.row PySem.Challenge.rw_middlesay_k01_sayings_or_not).prog [21]) (H := My.hookM) (ob := My.ob) (M := 4000) (loose := My.loose)
    (d := HandSHeadRun.topDef (OpenLaw.row PySem.Challenge.rw_middlesay_k01_sayings_or_not).prog 21) (kwd := []) My.ob_eq
    (by kernel_rfl) (fun s => by kernel_rfl) My.run (by kernel_rfl) (by kernel_rfl) (by kernel_rfl) (by rfl) (by first | assumption | decide +kernel) (by decide +kernel) ⟨rfl, rfl, rfl, rfl, rfl, by decide +kernel⟩ ?hw ?hc
  case hw => w_witness2
  case hc =>
    refine L2.walk_ofE (l := PySem.Challenge.rw_middlesay_k01_sayings_or_not) (n := 63) (k := 43) (x := "_law_script") (CX := L2.CX0) rfl (by decide) (by kernel_rfl) ⟨rfl, by decide, by decide⟩ ?F (fun _ _ _ _ z => z)
    intro w mg fa h Y G hmg0
    obtain ⟨K, KX, c⟩ := Y
    have hmg : mg ("law" : PySem.Str) = some (.ref fa) := by
      have e : (HandSHeadRun.topDef (OpenLaw.row PySem.Challenge.rw_middlesay_k01_sayings_or_not).prog 21).name = ("law" : PySem.Str) := by kernel_rfl
      rw [← e]
      exact hmg0
    obtain ⟨fd, hb, hF⟩ := My.facts (P := (PySem.Challenge.rw_middlesay_k01_sayings_or_not).prog) (w := w) KX G hmg c
    exact ⟨K, fd, My.spLaw K, KX, hb, fun H a ns hl _ hS => ⟨a, ns, rfl, hS, fun _ => rfl⟩, hF⟩
