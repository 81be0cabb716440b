import PyProof.Rows.All
import Wide.All
import OpenK.AllK
import Wide.FinOn
import HandS.ForExc
import HandS.ExcInit
import HandS.ForMost
import HandS.Wide
import HandS.WideBits
import HandS.IsInst
import HandS.Gcd
import HandS.Style
import HandS.EndBits
import HandS.Walk
import PySem.Challenge.RW_usualdays_k01_ratios_and_day_sets
set_option Elab.async false
set_option maxRecDepth 100000
set_option maxHeartbeats 4000000
namespace My
open PySem PySem.Spec PyProof.Rows L2
/-! ### raise C(), C an own error class whose __init__ does nothing -/
/-- such an __init__ -/
def sp_pass : Sp := fun vs H Q _ => ∃ a : Addr, vs = [.ref a] ∧ Q .non H
section
variable {X : Cx} {x : Str} {p pos : Pos}
theorem pmk_pass {C fI : Addr} {k : Nat} {fd : FuncData} (T : OexC X.K C) (iC : PySem.W.findIn X.K (.ref C) "__init__" = some (some (.ref fI))) (tI : PySem.W.typeIn X.K (.ref fI) = some (.type "function"))
    (F1 : FnOk X.prog X.w X.K X.mg X.base CX0 k fI fd ["self"] sp_pass) (hr : Room (k + 1) X.A) (hb : Binds X.K fd ["self"] []) (hg : Gl X x) (hm : X.mg x = some (.ref C)) (hdb : (x == ("__debug__" : Str)) = false := by decide) :
    PMk X (.Call (.Name x p) [] [] pos) (fun _ H Q => Q (.ref C) none H) := by
  intro pins s σ H Q I h
  obtain ⟨nm, q, N, bs, bm, sn, sub, ab, col, dd, k0, k1, k2, k3, k5, hC, hbm⟩ := T.cls
  refine wpAny_Call_Name_kw (ld_glob I hg hm ?_ hdb)
  refine PySem.W.callWith_K0 I.kIn T.kC ?_
  obtain ⟨hp, g, dr, tk, os⟩ := s
  have keep2 : ∀ b o, hp.get? b = some o → ((hp.push (PySem.W.kdv_tup [])).push (PySem.HandSPX.excO C hp.objs.size)).get? b = some o :=
    fun b o e => Heap.get?_push_of_some _ (Heap.get?_push_of_some _ e)
  have hget : ((hp.push (PySem.W.kdv_tup [])).push (PySem.HandSPX.excO C hp.objs.size)).get? (hp.objs.size + 1) = some (PySem.HandSPX.excO C hp.objs.size) := by heap_get
  have hn : H (hp.objs.size + 1) = none := I.hok.fresh (Nat.le_succ _)
  have I2 : Inv X pins σ H ⟨(hp.push (PySem.W.kdv_tup [])).push (PySem.HandSPX.excO C hp.objs.size), g, dr, tk, os⟩ := I.kept (t' := tk) keep2
  refine wpAny_call (PySem.HandSPX.call_own F.excBase_ValueError (fun Y => PySem.HandSPX.refsVE_contains Y bm hbm) (I.kIn _ _ hC) (PySem.W.looks_findIn I.kIn iC) (fun self => PySem.W.bind_fn I.kIn self tI) (Nat.zero_le _)
    (codeAny_mono (F1.run _ X.stack _ H ⟨[Value.ref (hp.objs.size + 1)], []⟩ [Value.ref (hp.objs.size + 1)] [V.ref (hp.objs.size + 1)] (fun v H2 => v = .non ∧ H2 = H) (fun _ _ _ => False)
      (hr.make C [] []) (I2.env0.make C [] []) (by have b1 := hb ⟨_, g, dr, tk, os⟩ [Value.ref (hp.objs.size + 1)] I2.kIn rfl; rwa [List.append_nil] at b1) (.cons rfl .nil) ⟨_, rfl, rfl, rfl⟩) fun r s' hq => ?_))
  cases r with
  | error er => exact hq.elim
  | ok fl =>
    cases fl with
    | next => exact False.elim hq
    | brk => exact False.elim hq
    | cont => exact False.elim hq
    | ret u =>
      obtain ⟨v, H2, os2, bare2, un, hok, rv, ev, eH⟩ := hq
      subst ev eH
      refine ⟨rv, ?_⟩
      obtain ⟨h2, g2, d2, t2, os'⟩ := s'
      have old : ∀ {b : Addr} {o : Obj}, hp.get? b = some o → b ≠ hp.objs.size + 1 := fun {b o} z => Nat.ne_of_lt (Nat.lt_succ_of_lt (Heap.lt_size z))
      obtain ⟨G, ga, gb⟩ := restrict h2 fun b => decide (b ≠ hp.objs.size + 1)
      have gk : ∀ b, b ≠ hp.objs.size + 1 → G.get? b = h2.get? b := fun b hb => ga b (decide_eq_true hb)
      have ge : G.get? (hp.objs.size + 1) = none := gb _ (by simp)
      have nfr : hp.objs.size + 1 ∉ frs X.stack := fun hm => by
        obtain ⟨_, o, ho, _⟩ := I.stack.mem hm
        exact absurd (Heap.lt_size ho) (Nat.not_lt.mpr (Nat.le_succ _))
      have he : h2.get? (hp.objs.size + 1) = some (PySem.HandSPX.excO C hp.objs.size) := un.keep _ _ hget hn nfr (by simp)
      have U : Un (frs X.stack) [] H2 H2 hp G := {
        keep := fun b o z n hf hx => (gk b (old z)).trans (un.keep b o (keep2 b o z) n hf hx)
        slot := fun b o z n hf hx => by
          obtain ⟨sl, e⟩ := un.slot b o (keep2 b o z) n hf hx
          exact ⟨sl, (gk b (old z)).trans e⟩
        free := fun b o z n hx => n
        there := fun b o z hx => by
          obtain ⟨o', e⟩ := un.there b o (keep2 b o z) hx
          exact ⟨o', (gk b (old z)).trans e⟩
        tups := fun b xs z => z
        frzs := fun b o v z => z
        tbls := fun b ps z => ⟨#[], by rw [z]; simp⟩ }
      have hok2 : HOk X.prog X.w H2 G := fun b o z => by
        have nb : ∀ {c : Addr} {o : HO}, H2 c = some o → c ≠ hp.objs.size + 1 := fun {c o} e i => by
          rw [i, hn] at e
          cases e
        exact (hok b o z).stay (fun c v hc y => by
          rcases hc with hc | hc
          · rw [gk c (by rw [hc]; exact nb z)]; exact y
          · rw [gk c (nb hc)]; exact y) (fun _ e => e) fun _ _ e => e
      have J : Inv X pins σ H2 ⟨G, g2, d2, t2, os'⟩ := I.call' (ch := []) os2 U hok2 bare2 fun b z => absurd z (by simp)
      refine ⟨_, _, _, ⟨G, g2, d2, t2, os'⟩, H2, .ref C, none, rfl, J, fun b o z => ?_, ge, he, ⟨rfl, rfl⟩, rfl, rfl, hn, rfl, bare2, raises_own T.exC T.tyC, h⟩
      by_cases hba : b = hp.objs.size + 1
      · have z' : G.get? b = some o := z
        rw [hba, ge] at z'
        cases z'
      · exact (gk b hba).symm.trans z
end
end My
set_option Elab.async false
set_option maxRecDepth 100000
set_option maxHeartbeats 4000000
namespace My
open PySem L2
/-! ### lists of ints and of bools as data -/
theorem lay_ints : ∀ ns : List Int, PyData.canLayAll0 (ns.map PyData.int) = true ∧ PyData.depthAll (ns.map PyData.int) = 0
  | [] => by simp [PyData.canLayAll0, PyData.depthAll]
  | n :: r => by
    have h := lay_ints r
    simp [PyData.canLayAll0, PyData.depthAll, PyData.canLay0, PyData.depth, h.1, h.2]
theorem lay_bls : ∀ ns : List Bool, PyData.canLayAll0 (ns.map PyData.bool) = true ∧ PyData.depthAll (ns.map PyData.bool) = 0
  | [] => by simp [PyData.canLayAll0, PyData.depthAll]
  | n :: r => by
    have h := lay_bls r
    simp [PyData.canLayAll0, PyData.depthAll, PyData.canLay0, PyData.depth, h.1, h.2]
theorem shaped_ints (ns : List Int) : SeqAt.shaped (.list (ns.map .int)) = true := by
  have h := lay_ints ns
  simp [SeqAt.shaped, PyData.canLay0, PyData.depth, h.1, h.2]
theorem shaped_intsT (ns : List Int) : SeqAt.shaped (.tuple (ns.map .int)) = true := by
  have h := lay_ints ns
  simp [SeqAt.shaped, PyData.canLay0, PyData.depth, h.1, h.2]
theorem shaped_bls (ns : List Bool) : SeqAt.shaped (.list (ns.map .bool)) = true := by
  have h := lay_bls ns
  simp [SeqAt.shaped, PyData.canLay0, PyData.depth, h.1, h.2]
theorem eqv_ints : ∀ ns ms : List Int, PyData.eqvAll (ns.map .int) (ms.map .int) = decide (ns = ms)
  | [], [] => by simp [PyData.eqvAll]
  | [], _ :: _ => by simp [PyData.eqvAll]
  | _ :: _, [] => by simp [PyData.eqvAll]
  | n :: r, m :: t => by
    have h := eqv_ints r t
    simp only [List.map_cons, PyData.eqvAll, PyData.eqv, h, List.cons.injEq, Bool.decide_and]
    congr 1
theorem eqv_bls : ∀ ns ms : List Bool, PyData.eqvAll (ns.map .bool) (ms.map .bool) = decide (ns = ms)
  | [], [] => by simp [PyData.eqvAll]
  | [], _ :: _ => by simp [PyData.eqvAll]
  | _ :: _, [] => by simp [PyData.eqvAll]
  | n :: r, m :: t => by
    have h := eqv_bls r t
    simp only [List.map_cons, PyData.eqvAll, PyData.eqv, h, List.cons.injEq, Bool.decide_and]
    congr 1
theorem dp_ints {K : PySem.W.Frag} {H : Hp} : ∀ ns : List Int, DpAll K H (ns.map V.int) (ns.map .int)
  | [] => .nil
  | n :: r => .cons (.int n) (dp_ints r)
theorem dp_bls {K : PySem.W.Frag} {H : Hp} : ∀ ns : List Bool, DpAll K H (ns.map V.bl) (ns.map .bool)
  | [] => .nil
  | n :: r => .cons (.bl n) (dp_bls r)
/-- == of two lists of ints | bools, of two tuples of ints -/
theorem eq_ints {K : PySem.W.Frag} {H : Hp} {Q : VK} {a b : Addr} {ns ms : List Int} (ha : SqL K H a (ns.map V.int)) (hb : SqL K H b (ms.map V.int)) (q : Q (.bl (decide (ns = ms))) H) : rEqD K (.ref a) (.ref b) H Q :=
  ⟨_, _, .lst ha (dp_ints ns), .lst hb (dp_ints ms), shaped_ints _, shaped_ints _, by rw [show PyData.eqv (.list (ns.map .int)) (.list (ms.map .int)) = decide (ns = ms) from by rw [← eqv_ints]; simp [PyData.eqv]]; exact q⟩
theorem ne_ints {K : PySem.W.Frag} {H : Hp} {Q : VK} {a b : Addr} {ns ms : List Int} (ha : SqL K H a (ns.map V.int)) (hb : SqL K H b (ms.map V.int)) (q : Q (.bl (!decide (ns = ms))) H) : rNeD K (.ref a) (.ref b) H Q :=
  ⟨_, _, .lst ha (dp_ints ns), .lst hb (dp_ints ms), shaped_ints _, shaped_ints _, by rw [show PyData.eqv (.list (ns.map .int)) (.list (ms.map .int)) = decide (ns = ms) from by rw [← eqv_ints]; simp [PyData.eqv]]; exact q⟩
theorem ne_intsT {K : PySem.W.Frag} {H : Hp} {Q : VK} {a b : Addr} {ns ms : List Int} (ha : SqT K H a (ns.map V.int)) (hb : SqT K H b (ms.map V.int)) (q : Q (.bl (!decide (ns = ms))) H) : rNeD K (.ref a) (.ref b) H Q :=
  ⟨_, _, .tup ha (dp_ints ns), .tup hb (dp_ints ms), shaped_intsT _, shaped_intsT _, by rw [show PyData.eqv (.tuple (ns.map .int)) (.tuple (ms.map .int)) = decide (ns = ms) from by rw [← eqv_ints]; simp [PyData.eqv]]; exact q⟩
theorem eq_bls {K : PySem.W.Frag} {H : Hp} {Q : VK} {a b : Addr} {ns ms : List Bool} (ha : SqL K H a (ns.map V.bl)) (hb : SqL K H b (ms.map V.bl)) (q : Q (.bl (decide (ns = ms))) H) : rEqD K (.ref a) (.ref b) H Q :=
  ⟨_, _, .lst ha (dp_bls ns), .lst hb (dp_bls ms), shaped_bls _, shaped_bls _, by rw [show PyData.eqv (.list (ns.map .bool)) (.list (ms.map .bool)) = decide (ns = ms) from by rw [← eqv_bls]; simp [PyData.eqv]]; exact q⟩
theorem ne_bls {K : PySem.W.Frag} {H : Hp} {Q : VK} {a b : Addr} {ns ms : List Bool} (ha : SqL K H a (ns.map V.bl)) (hb : SqL K H b (ms.map V.bl)) (q : Q (.bl (!decide (ns = ms))) H) : rNeD K (.ref a) (.ref b) H Q :=
  ⟨_, _, .lst ha (dp_bls ns), .lst hb (dp_bls ms), shaped_bls _, shaped_bls _, by rw [show PyData.eqv (.list (ns.map .bool)) (.list (ms.map .bool)) = decide (ns = ms) from by rw [← eqv_bls]; simp [PyData.eqv]]; exact q⟩

/-! ### day sets as naturals -/
def nInt (ds : List Nat) : List Int := ds.map fun d : Nat => (d : Int)
/-- the set with these days -/
def setOf (ds : List Nat) : Nat := ds.foldl (fun s d => s ||| 2 ^ d) 0
theorem bit_pow (d i : Nat) : (2 ^ d).testBit i = decide (d = i) := Nat.testBit_two_pow
theorem setOf_go (ds : List Nat) (s i : Nat) : (ds.foldl (fun s d => s ||| 2 ^ d) s).testBit i = (s.testBit i || decide (i ∈ ds)) := by
  induction ds generalizing s with
  | nil => simp
  | cons d r ih =>
    rw [List.foldl_cons, ih, Nat.testBit_or, bit_pow]
    by_cases h : d = i
    · subst h; simp
    · have h2 : ¬ i = d := fun e => h e.symm
      simp [h, h2]
theorem setOf_bit (ds : List Nat) (i : Nat) : (setOf ds).testBit i = decide (i ∈ ds) := by
  unfold setOf
  rw [setOf_go]
  simp
theorem setOf_ext {ds es : List Nat} (h : ∀ i, i ∈ ds ↔ i ∈ es) : setOf ds = setOf es := by
  refine Nat.eq_of_testBit_eq fun i => ?_
  rw [setOf_bit, setOf_bit]
  simp [h i]
/-- a bit that is not there, added -/
theorem add_bit {s d : Nat} (h : s.testBit d = false) : s + 2 ^ d = s ||| 2 ^ d := by
  have e := Nat.div_add_mod s (2 ^ (d + 1))
  have hr : s % 2 ^ (d + 1) < 2 ^ d := by
    have h1 := Nat.testBit_eq_decide_div_mod_eq (x := s) (i := d)
    rw [h] at h1
    have h2 : ¬ (s / 2 ^ d % 2 = 1) := by simpa using h1.symm
    have h3 : s % 2 ^ (d + 1) = s % 2 ^ d + 2 ^ d * (s / 2 ^ d % 2) := by rw [Nat.pow_succ, Nat.mod_mul]
    have h4 : s / 2 ^ d % 2 = 0 := by omega
    rw [h3, h4]
    have := Nat.mod_lt s (Nat.two_pow_pos d)
    omega
  have h5 : 2 ^ d + s % 2 ^ (d + 1) = 2 ^ d ||| s % 2 ^ (d + 1) := by
    have := Nat.two_pow_add_eq_or_of_lt hr 1
    simpa using this
  have h6 : 2 ^ d + s % 2 ^ (d + 1) < 2 ^ (d + 1) := by have e2 := Nat.pow_succ (n := 2) (m := d); omega
  have h7 := Nat.two_pow_add_eq_or_of_lt h6 (s / 2 ^ (d + 1))
  have h8 := Nat.two_pow_add_eq_or_of_lt (Nat.lt_trans hr (Nat.pow_lt_pow_right (by decide) (Nat.lt_succ_self d))) (s / 2 ^ (d + 1))
  calc s + 2 ^ d = 2 ^ (d + 1) * (s / 2 ^ (d + 1)) + (2 ^ d + s % 2 ^ (d + 1)) := by omega
    _ = 2 ^ (d + 1) * (s / 2 ^ (d + 1)) ||| (2 ^ d ||| s % 2 ^ (d + 1)) := by rw [h7, h5]
    _ = (2 ^ (d + 1) * (s / 2 ^ (d + 1)) ||| s % 2 ^ (d + 1)) ||| 2 ^ d := by rw [Nat.or_comm (2 ^ d), Nat.or_assoc]
    _ = s ||| 2 ^ d := by rw [← h8, e]
theorem sum_go (ds : List Nat) (s : Nat) (hn : ds.Nodup) (hs : ∀ d ∈ ds, s.testBit d = false) : s + (ds.map fun d => 2 ^ d).sum = ds.foldl (fun s d => s ||| 2 ^ d) s := by
  induction ds generalizing s with
  | nil => simp
  | cons d r ih =>
    rw [List.nodup_cons] at hn
    rw [List.map_cons, List.sum_cons, List.foldl_cons, ← ih _ hn.2, ← Nat.add_assoc, add_bit (hs d List.mem_cons_self)]
    intro i hi
    have hd : d ≠ i := fun e => hn.1 (e ▸ hi)
    rw [Nat.testBit_or, bit_pow, hs i (List.mem_cons_of_mem _ hi)]
    simp [hd]
theorem sum_setOf {ds : List Nat} (hn : ds.Nodup) : (ds.map fun d => 2 ^ d).sum = setOf ds := by
  have := sum_go ds 0 hn (fun d _ => Nat.zero_testBit d)
  unfold setOf
  omega
/-- the days in a set below 2 ^ 16 -/
def daysOf (n : Nat) : List Nat := (List.range 16).filter fun d => n.testBit d
theorem mem_daysOf {n d : Nat} : d ∈ daysOf n ↔ d < 16 ∧ n.testBit d = true := by
  unfold daysOf
  rw [List.mem_filter, List.mem_range]
theorem daysOf_more {n m : Nat} (h : n < 2 ^ m) (hm : m ≤ 16) : (List.range m).filter (fun d => n.testBit d) = daysOf n := by
  obtain ⟨k, hk⟩ := Nat.exists_eq_add_of_le hm
  unfold daysOf
  rw [hk, List.range_add, List.filter_append]
  have e : (List.map (fun x => m + x) (List.range k)).filter (fun d => n.testBit d) = [] := by
    rw [List.filter_eq_nil_iff]
    intro a ha
    obtain ⟨j, _, rfl⟩ := List.mem_map.mp ha
    rw [Nat.testBit_lt_two_pow (Nat.lt_of_lt_of_le h (Nat.pow_le_pow_right (by decide) (Nat.le_add_right m j)))]
    decide
  rw [e, List.append_nil]
/-- sorted days below 16 are the days of their set -/
theorem daysOf_filter {m : Nat} (f : Nat → Bool) (hm : m ≤ 16) : daysOf (setOf ((List.range m).filter f)) = (List.range m).filter f := by
  obtain ⟨k, hk⟩ := Nat.exists_eq_add_of_le hm
  unfold daysOf
  rw [hk, List.range_add, List.filter_append]
  have e : (List.map (fun x => m + x) (List.range k)).filter (fun d => (setOf ((List.range m).filter f)).testBit d) = [] := by
    rw [List.filter_eq_nil_iff]
    intro a ha
    obtain ⟨j, _, rfl⟩ := List.mem_map.mp ha
    rw [setOf_bit]
    have z : ¬ m + j < m := by omega
    simp [z]
  rw [e, List.append_nil]
  refine List.filter_congr fun d hd => ?_
  have hd' := List.mem_range.mp hd
  rw [setOf_bit]
  simp [hd']
theorem setOf_lt {ds : List Nat} {m : Nat} (h : ∀ d ∈ ds, d < m) : setOf ds < 2 ^ m := by
  refine Nat.lt_pow_two_of_testBit _ fun i hi => ?_
  rw [setOf_bit]
  simp only [decide_eq_false_iff_not]
  intro hm
  have := h i hm
  omega
/-- one set within another -/
theorem sub_iff (a b : Nat) : a &&& b = a ↔ ∀ i, a.testBit i = true → b.testBit i = true := by
  constructor
  · intro h i hi
    have : (a &&& b).testBit i = true := by rw [h]; exact hi
    rw [Nat.testBit_and] at this
    exact (Bool.and_eq_true_iff.mp this).2
  · intro h
    refine Nat.eq_of_testBit_eq fun i => ?_
    rw [Nat.testBit_and]
    cases e : a.testBit i with
    | false => rfl
    | true => rw [h i e]; rfl
end My
set_option Elab.async false
set_option maxRecDepth 100000
set_option maxHeartbeats 4000000
namespace My
open PySem L2
/-! ### rules with the written part named: for the blocks of comprehensions -/
section
variable {X : Cx} {K : PySem.W.Frag}
theorem ix_listK (h : X.K = K) : IxR X (rIxL K) := by subst h; exact ix_list
theorem ix_tupK (h : X.K = K) : IxR X (rIxT K) := by subst h; exact ix_tup
theorem op_eqDK (h : X.K = K) (hu : X.A.units + 64 < cLine) : OpR X (compareOp .Eq) (rEqD K) := by subst h; exact op_eqD hu
theorem op_neDK (h : X.K = K) (hu : X.A.units + 64 < cLine) : OpR X (compareOp .NotEq) (rNeD K) := by subst h; exact op_neD hu
theorem op_inK (h : X.K = K) : OpR X (compareOp .In) (rIn K false) := by subst h; exact op_in_seq
theorem op_notInK (h : X.K = K) : OpR X (compareOp .NotIn) (rIn K true) := by subst h; exact op_notIn_seq
def rLenK (K : PySem.W.Frag) : List V → Hp → VK → Prop := fun xs H Q => ∃ p ys, xs = [.ref p] ∧ (SqL K H p ys ∨ SqT K H p ys) ∧ Q (.int (ys.length : Nat)) H
theorem call_lenK (h : X.K = K) : CallR X (.builtin "len") (rLenK K) := by subst h; exact call_len_seq
theorem call_isiKn (h : X.K = K) : CallR X (.builtin "isinstance") (rIsi K) := by subst h; exact call_isi
def tTruK (K : PySem.W.Frag) (ta : TE) : TT := fun σ H Q => ta σ H fun x H' => ∃ k, TruV K x H' k ∧ Q k H'
theorem pt_truthK {a : Expr} {ta : TE} (h : X.K = K) (ha : PE X a ta) (he : ∀ whole, isTrue a X.env whole = (do let v ← whole; standAt a.pos; holding [v] (truthy v)) := by intro _; rfl) : PT X a (tTruK K ta) := by
  subst h; exact pt_truth ha he
theorem pe_fldK {e : Expr} {f : Str} {pos : Pos} {ta : TE} (h : X.K = K) (he : PE X e ta) (hb : attributeBase e f X.env (eval e X.env) = eval e X.env := by rfl) : PE X (.Attribute e f pos) (tFld K ta f) := by
  subst h; exact pe_fld he hb
end
end My
namespace My
open PySem L2
/-! ### comprehensions over a list, each element by itself -/
theorem wipe1 (σ : St) (j : Nat) (v : Option V) : wipe ((wipe σ [j]).set j v) [j] = wipe σ [j] := by
  show (((σ.set j none).set j v).set j none) = σ.set j none
  rw [List.set_set, List.set_set]
/-- [e for x in xs], the heap but for new objects as it was -/
theorem lc_mapL {K : PySem.W.Frag} {a D : Addr} {xs ys : List V} {j : Nat} {te : TE} {σ : St} {H : Hp} {Qd : Hp → Prop} (hS : SqL K H a xs) (hD : H D = none) (hl : xs.length = ys.length) (hn : xs.length ≤ 100000)
    (he : ∀ (i : Nat) (x y : V) (H2 : Hp), xs[i]? = some x → ys[i]? = some y → Same H H2 → ∀ Q : VK, (∀ H3, Same H2 H3 → Q y H3) → te ((wipe σ [j]).set j (some x)) H2 Q)
    (hd : ∀ H2, Same H H2 → H2 D = some (.lst ys) → Qd H2) :
    ∃ W : Nat → Nat → Hp → Prop, (∃ m, W 0 m (upd H D (.lst []))) ∧ ∀ i m H, W i m H →
      ((Itl K a).stop i H ∧ Qd H) ∨ ((Itl K a).go i H ∧ ∃ Nx : Hp → Prop, (∀ H', Nx H' → ∃ m', m' < m ∧ W (i + 1) m' H') ∧ ∀ x H', (Itl K a).yld i H x H' → gName j x (wipe σ [j]) H' fun σ2 H2 => wipe σ2 [j] = wipe σ [j] ∧ tYes σ2 H2 fun b H3 =>
        if b = true then te σ2 H3 fun y H4 => ∃ acc, H4 D = some (.lst acc) ∧ acc.length < sizeLine ∧ Nx (upd H4 D (.lst (acc ++ [y]))) else Nx H3) := by
  have sD : Same H (upd H D (.lst [])) := fun b o e => by
    rw [upd_ne (ne_of_none e hD)]; exact e
  refine lc_list (K := K) (a := a) (xs := xs) (fun i H2 => Same H H2 ∧ H2 D = some (.lst (ys.take i))) ⟨sD, upd_same⟩ (fun i H2 _ h => h.1.seq hS) ?_ ?_
  · rintro i x H2 hi ⟨s2, h2⟩
    have hi1 : i < xs.length := (List.getElem?_eq_some_iff.mp hi).1
    have hy : ys[i]? = some (ys[i]'(by omega)) := List.getElem?_eq_getElem _
    refine ⟨wipe1 σ j _, ?_⟩
    refine iteT (B := Same H H2 ∧ H2 D = some (.lst (ys.take (i + 1)))) ?_
    refine he i x _ H2 hi hy s2 _ fun H3 s3 => ?_
    refine ⟨_, s3 _ _ h2, ?_, fun b o e => ?_, ?_⟩
    · rw [List.length_take]
      exact Nat.lt_of_le_of_lt (Nat.min_le_left _ _) (Nat.lt_of_lt_of_le hi1 (Nat.le_trans hn (by decide)))
    · rw [upd_ne (ne_of_none e hD)]
      exact s3 _ _ (s2 _ _ e)
    · rw [upd_same, List.take_add_one, hy]
      rfl
  · rintro H2 ⟨s2, h2⟩
    refine hd H2 s2 ?_
    rw [h2, hl, List.take_length]
/-- [x for x in xs if t], the test leaves the heap but for new objects as it was -/
theorem lc_filterL {K : PySem.W.Frag} {a D : Addr} {xs : List V} {j : Nat} {tt : TT} {σ : St} {H : Hp} {Qd : Hp → Prop} (f : V → Bool) (hj : j < σ.length) (hS : SqL K H a xs) (hD : H D = none) (hn : xs.length ≤ 100000)
    (ht : ∀ (i : Nat) (x : V) (H2 : Hp), xs[i]? = some x → Same H H2 → ∀ Q : Bool → Hp → Prop, (∀ H3, Same H2 H3 → Q (f x) H3) → tt ((wipe σ [j]).set j (some x)) H2 Q)
    (hd : ∀ H2, Same H H2 → H2 D = some (.lst (xs.filter f)) → Qd H2) :
    ∃ W : Nat → Nat → Hp → Prop, (∃ m, W 0 m (upd H D (.lst []))) ∧ ∀ i m H, W i m H →
      ((Itl K a).stop i H ∧ Qd H) ∨ ((Itl K a).go i H ∧ ∃ Nx : Hp → Prop, (∀ H', Nx H' → ∃ m', m' < m ∧ W (i + 1) m' H') ∧ ∀ x H', (Itl K a).yld i H x H' → gName j x (wipe σ [j]) H' fun σ2 H2 => wipe σ2 [j] = wipe σ [j] ∧ tt σ2 H2 fun b H3 =>
        if b = true then tVar j σ2 H3 fun y H4 => ∃ acc, H4 D = some (.lst acc) ∧ acc.length < sizeLine ∧ Nx (upd H4 D (.lst (acc ++ [y]))) else Nx H3) := by
  have sD : Same H (upd H D (.lst [])) := fun b o e => by
    rw [upd_ne (ne_of_none e hD)]; exact e
  refine lc_list (K := K) (a := a) (xs := xs) (fun i H2 => Same H H2 ∧ H2 D = some (.lst ((xs.take i).filter f))) ⟨sD, upd_same⟩ (fun i H2 _ h => h.1.seq hS) ?_ ?_
  · rintro i x H2 hi ⟨s2, h2⟩
    have hi1 : i < xs.length := (List.getElem?_eq_some_iff.mp hi).1
    have et : (xs.take (i + 1)).filter f = (xs.take i).filter f ++ (if f x = true then [x] else []) := by
      rw [List.take_add_one, hi, List.filter_append]
      by_cases z : f x = true <;> simp [z]
    refine ⟨wipe1 σ j _, ht i x H2 hi s2 _ fun H3 s3 => ?_⟩
    refine ite2 (fun z => ?_) (fun z => ?_)
    · refine ⟨x, ?_, _, s3 _ _ h2, ?_, fun b o e => ?_, ?_⟩
      · show ((σ.set j none).set j (some x))[j]? = some (some x)
        rw [List.set_set, List.getElem?_set_self hj]
      · refine Nat.lt_of_le_of_lt (List.length_filter_le _ _) ?_
        rw [List.length_take]
        exact Nat.lt_of_le_of_lt (Nat.min_le_left _ _) (Nat.lt_of_lt_of_le hi1 (Nat.le_trans hn (by decide)))
      · rw [upd_ne (ne_of_none e hD)]
        exact s3 _ _ (s2 _ _ e)
      · rw [upd_same, et, if_pos z]
    · refine ⟨s2.trans s3, ?_⟩
      rw [s3 _ _ h2, et, if_neg z, List.append_nil]
  · rintro H2 ⟨s2, h2⟩
    refine hd H2 s2 ?_
    rw [h2, List.take_length]
end My
set_option Elab.async false
set_option maxRecDepth 100000
set_option maxHeartbeats 4000000
namespace My
open PySem L2
def top (i : Nat) : Stmt := PySem.Challenge.pw_usualdays_k01_ratios_and_day_sets.main.body.getD i (.Pass ⟨0, 0, 0, 0⟩)

/-- a def of the top as its callers see it -/
structure Df (K : PySem.W.Frag) (mg : Str → Option Value) (x : Str) (ps : List Str) (f : Addr) (fd : FuncData) : Prop where
  g : mg x = some (.ref f)
  kp : PySem.W.keepIn K (.ref f) = true
  b : Binds K fd ps []
/-- the built-ins' names -/
structure Bt (mg : Str → Option Value) : Prop where
  len : mg "len" = none
  abs : mg "abs" = none
  int : mg "int" = none
  enumerate : mg "enumerate" = none
  range : mg "range" = none

/-- all but b stays -/
def But (b : Addr) (H H' : Hp) : Prop := ∀ a o, a ≠ b → H a = some o → H' a = some o
theorem But.refl (b : Addr) (H : Hp) : But b H H := fun _ _ _ h => h
theorem But.trans {b : Addr} {H H1 H2 : Hp} (p : But b H H1) (q : But b H1 H2) : But b H H2 := fun a o n h => q a o n (p a o n h)
theorem But.of {b : Addr} {H H1 : Hp} (p : Same H H1) : But b H H1 := fun a o _ h => p a o h
theorem But.upd (b : Addr) (H : Hp) (o : HO) : But b H (L2.upd H b o) := fun a u n h => by rw [upd_ne n]; exact h
theorem same_new {H : Hp} {p : Addr} {o : HO} (h : H p = none) : Same H (upd H p o) := fun a u e => by
  rw [upd_ne (ne_of_none e h)]; exact e

/-- a bag: the digits left, the mix, the turns -/
def Bag (H : Hp) (b : Addr) : Prop := ∃ c m n : Int, H b = some (.lst [.int c, .int m, .int n]) ∧ 0 ≤ c ∧ 0 ≤ m ∧ m < 2 ^ 40 ∧ 0 ≤ n

def sp_l_take : Sp := fun vs H Q _ => ∃ (b : Addr) (k : Int), vs = [.ref b, .int k] ∧ Bag H b ∧ 0 < k ∧ k < 2 ^ 8000 ∧
  ∀ (r : Int) (H' : Hp), 0 ≤ r → r < k → Bag H' b → But b H H' → Q (.int r) H'

section
variable {P : Program} {w : World} {K : PySem.W.Frag} {mg : Str → Option Value} {base : Heap}
abbrev s_l_take : Stmt := top 18
abbrev N_l_take : List Str := ["_law_bag_here", "_law_many", "_law_digit"]
theorem sc_l_take : FnScope N_l_take ["_law_bag_here", "_law_many"] (defScope s_l_take) := ⟨rfl, rfl, rfl, by decide +kernel, rfl, by decide +kernel, by decide +kernel⟩
theorem ok_l_take {f : Addr} {fd : FuncData} (F : Fun K "_law_take" "_law_take" s_l_take f fd) (T : Bt mg) : FnOk P w K mg base CX0 2 f fd ["_law_bag_here", "_law_many"] sp_l_take := by
  refine F.ok sc_l_take (fun vs H Q E h => ?_) (fun cdv A outer s H vs Q E hr h => ?_)
  · obtain ⟨b, k, rfl, _⟩ := h
    rfl
  · obtain ⟨b, k, rfl, ⟨c, m, n, hb, hc, hm, hm', hn⟩, hk, hk', q⟩ := h
    refine ⟨_, (pss_cons (ps_if (pt_cmpR op_gt (pe_ix ix_list (pv 0) pe_int (fun _ _ => rfl)) pe_int (nomark _)) (pss_cons (ps_set (i := 2) sc_l_take.nd rfl (Or.inl rfl) (pe_op op_mod (pe_callTy call_int1 (by rfl) T.int (by decide +kernel) (pa_cons (pe_ix ix_list (pv 0) pe_int (fun _ _ => rfl)) pa_nil)) (pv 1)))
        (pss_cons (ps_asg (pe_op op_fdivW (pe_ix ix_list (pv 0) pe_int (fun _ _ => rfl)) (pv 1)) (pg_sub (pv 0) pe_int set_list))
        (pss_one (ps_ret (pv 2))))) pss_nil)
        (pss_cons (ps_asg (pe_op op_add (pe_ix ix_list (pv 0) pe_int (fun _ _ => rfl)) pe_int) (pg_sub (pv 0) pe_int set_list))
        (pss_cons (ps_asg (pe_op op_mod (pe_callTy call_int1 (by rfl) T.int (by decide +kernel) (pa_cons (pe_op op_add (pe_op op_add (pe_op op_mul (pe_ix ix_list (pv 0) pe_int (fun _ _ => rfl)) pe_int) (pe_op op_mul pe_int (pe_ix ix_list (pv 0) pe_int (fun _ _ => rfl)))) pe_int) pa_nil)) pe_int) (pg_sub (pv 0) pe_int set_list))
        (pss_one (ps_ret (pe_op op_mod (pe_op op_fdivW (pe_op op_mod (pe_callTy call_int1 (by rfl) T.int (by decide +kernel) (pa_cons (pe_op op_mul (pe_ix ix_list (pv 0) pe_int (fun _ _ => rfl)) pe_int) pa_nil)) pe_int) pe_int) (pv 1))))))), ?_⟩
    refine ⟨_, rfl, _, _, _, _, rfl, rfl, SqL.of hb, rfl, _, _, rfl, rfl, _, rfl, ?_⟩
    refine ite2 (fun z => ?_) (fun z => ?_)
    · have z' : 0 < c := of_decide_eq_true z
      refine ⟨_, rfl, _, _, _, _, rfl, rfl, SqL.of hb, rfl, .inl ⟨_, rfl, _, rfl, _, _, rfl, rfl, hk, ?_⟩⟩
      refine ⟨_, rfl, _, _, _, _, rfl, rfl, SqL.of hb, rfl, _, rfl, _, _, rfl, rfl, wide_div hk (b := 8000) (by omega) (by decide) (by decide), ?_⟩
      refine ⟨_, rfl, _, _, _, _, rfl, rfl, hb, rfl, ?_⟩
      refine ⟨_, rfl, ?_⟩
      refine q _ _ (Int.emod_nonneg _ (by omega)) (Int.emod_lt_of_pos _ hk) ⟨c / k, m, n, upd_same, Int.ediv_nonneg hc (by omega), hm, hm', hn⟩ (But.upd _ _ _)
    · refine ⟨_, rfl, _, _, _, _, rfl, rfl, SqL.of hb, rfl, _, _, rfl, rfl, ?_⟩
      refine ⟨_, rfl, _, _, _, _, rfl, rfl, hb, rfl, ?_⟩
      have hb2 : (upd H b (.lst ([V.int c, V.int m, V.int n].set 2 (V.int (n + 1))))) b = some (.lst [V.int c, V.int m, V.int (n + 1)]) := upd_same
      refine ⟨_, rfl, _, _, _, _, rfl, rfl, SqL.of hb2, rfl, _, _, rfl, rfl, .inr ⟨by decide, by decide⟩, ?_⟩
      refine ⟨_, rfl, _, _, _, _, rfl, rfl, SqL.of hb2, rfl, _, _, rfl, rfl, .inl ⟨by decide, by decide⟩, ?_⟩
      refine ⟨_, _, rfl, rfl, _, _, rfl, rfl, .inl ⟨_, rfl, _, _, rfl, rfl, (by show (0 : Int) < 2147483647; decide), ?_⟩⟩
      refine ⟨_, rfl, _, _, _, _, rfl, rfl, hb2, rfl, ?_⟩
      have h0 : 0 ≤ (m * 48271 + 11 * (n + 1) + 7) % 2147483647 := Int.emod_nonneg _ (by decide)
      have h1 : (m * 48271 + 11 * (n + 1) + 7) % 2147483647 < 2147483647 := Int.emod_lt_of_pos _ (by decide)
      have hb3 : (upd (upd H b (.lst ([V.int c, V.int m, V.int n].set 2 (V.int (n + 1))))) b (.lst ([V.int c, V.int m, V.int (n + 1)].set 1 (V.int ((m * 48271 + 11 * (n + 1) + 7) % 2147483647))))) b = some (.lst [V.int c, V.int ((m * 48271 + 11 * (n + 1) + 7) % 2147483647), V.int (n + 1)]) := upd_same
      refine ⟨_, rfl, _, _, _, _, rfl, rfl, SqL.of hb3, rfl, _, _, rfl, rfl, .inr ⟨by decide, by decide⟩, .inl ⟨_, rfl, ?_⟩⟩
      refine ⟨_, _, rfl, rfl, (by show (0 : Int) < 2147483629; decide), _, _, rfl, rfl, wide_div (by decide) (b := 8) (by decide) (by decide) (by decide), ?_⟩
      refine ⟨_, rfl, _, _, rfl, rfl, hk, ?_⟩
      exact q _ _ (Int.emod_nonneg _ (by omega)) (Int.emod_lt_of_pos _ hk) ⟨c, _, n + 1, hb3, hc, h0, by omega, by omega⟩ ((But.upd _ _ _).trans (But.upd _ _ _))
end
end My
set_option Elab.async false
set_option maxRecDepth 100000
set_option maxHeartbeats 4000000
namespace My
open PySem L2
/-! ### the bag, a pick -/
def sp_l_bag (K : PySem.W.Frag) : Sp := fun vs H Q _ => ∃ (a : Addr) (ns : List Int) (k : Int), vs = [.ref a, .int k] ∧ SqL K H a (ns.map V.int) ∧ ns.length ≤ 63 ∧ 0 ≤ k ∧ k < 1000 ∧
  ∀ (b : Addr) (H' : Hp), H b = none → Same H H' → Bag H' b → Q (.ref b) H'
def sp_l_of : Sp := fun vs H Q _ => ∃ (b a : Addr) (xs : List V), vs = [.ref b, .ref a] ∧ Bag H b ∧ a ≠ b ∧ H a = some (.lst xs) ∧ 0 < xs.length ∧ xs.length ≤ 100000 ∧
  ∀ (i : Nat) (v : V) (H' : Hp), xs[i]? = some v → Bag H' b → But b H H' → Q v H'
/-- an expression's value by a relation, kept apart from what follows -/
theorem asg_of {te : TE} {i : Nat} {U : TS} {D : Ends} {σ : St} {H : Hp} {R : V → Hp → Prop} (k : ∀ Q : VK, (∀ v H', R v H' → Q v H') → te σ H Q) (h : ∀ v H', R v H' → U D (σ.set i (some v)) H') :
    tSeq (tAsg te (gName i)) U D σ H := k _ h
theorem asg_ret {te : TE} {tr : TA} {D : Ends} {σ : St} {H : Hp} {R : V → Hp → Prop} (k : ∀ Q : VK, (∀ v H', R v H' → Q v H') → te σ H Q) (h : ∀ v H', R v H' → tr σ H' fun xs H2 => (v :: xs).length ≤ sizeLine ∧ ∀ p, H2 p = none → D.rt (.ref p) (upd H2 p (.lst (v :: xs)))) :
    tRet (tLst (tCons te tr)) D σ H := k _ h
section
variable {P : Program} {w : World} {K : PySem.W.Frag} {mg : Str → Option Value} {base : Heap}
abbrev s_l_bag : Stmt := top 17
abbrev N_l_bag : List Str := ["_law_script", "_law_at", "_law_cell", "_law_mix", "_law_k", "_law_each"]
theorem sc_l_bag : FnScope N_l_bag ["_law_script", "_law_at"] (defScope s_l_bag) := ⟨rfl, rfl, rfl, by decide +kernel, rfl, by decide +kernel, by decide +kernel⟩
theorem int_at {ns : List Int} {i : Nat} {x : V} (h : (ns.map V.int)[i]? = some x) : ∃ z, x = .int z ∧ ns[i]? = some z := by
  rw [List.getElem?_map] at h
  cases e : ns[i]? with
  | none => rw [e] at h; cases h
  | some z => rw [e] at h; exact ⟨z, (Option.some.inj h).symm, rfl⟩
theorem cut_ints (ns : List Int) (hi : Option Int) : ∃ ms : List Int, cutV (ns.map V.int) none hi = ms.map V.int ∧ ms.length ≤ ns.length := by
  refine ⟨(ns.drop (HT.sIx (ns.map V.int).length 0 none)).take (HT.sIx (ns.map V.int).length (ns.map V.int).length hi - HT.sIx (ns.map V.int).length 0 none), ?_, ?_⟩
  · unfold cutV
    rw [List.map_take, List.map_drop]
  · rw [List.length_take, List.length_drop]
    omega
theorem ok_l_bag {f : Addr} {fd : FuncData} (F : Fun K "_law_bag" "_law_bag" s_l_bag f fd) (T : Bt mg) : FnOk P w K mg base CX0 2 f fd ["_law_script", "_law_at"] (sp_l_bag K) := by
  refine F.ok sc_l_bag (fun vs H Q E h => ?_) (fun cdv A outer s H vs Q E hr h => ?_)
  · obtain ⟨a, ns, k, rfl, _⟩ := h
    rfl
  · obtain ⟨a, ns, k, rfl, hS, hl, hk, hk', q⟩ := h
    refine ⟨_, (pss_cons (ps_set (i := 2) sc_l_bag.nd rfl (Or.inl rfl) (pe_ifExp (pt_cmpR op_lt (pv 1) (pe_callB call_len_seq (by rfl) T.len (by decide +kernel) (pa_cons (pv 0) pa_nil)) (nomark _)) (pe_callB call_abs (by rfl) T.abs (by decide +kernel) (pa_cons (pe_callTy call_int1 (by rfl) T.int (by decide +kernel) (pa_cons (pe_ix ix_list (pv 0) (pv 1) (fun _ _ => rfl)) pa_nil)) pa_nil)) pe_int))
        (pss_cons (ps_set (i := 3) sc_l_bag.nd rfl (Or.inl rfl) (pe_op op_add pe_int (pe_op op_mul pe_int (pv 1))))
        (pss_cons (ps_for PassesOwn.never rfl (pi_enum (by rfl) T.enumerate (pa_cons (pe_slice sl_list (pv 0) po_none (po_some pe_int)) pa_nil)) (pg_tup rfl (pgs_cons (pg_name (i := 4) sc_l_bag.nd rfl (Or.inl rfl)) (pgs_cons (pg_name (i := 5) sc_l_bag.nd rfl (Or.inl rfl)) pgs_nil))) (pss_one (ps_set (i := 3) sc_l_bag.nd rfl (Or.inl rfl) (pe_op op_mod (pe_callTy call_int1 (by rfl) T.int (by decide +kernel) (pa_cons (pe_op op_add (pe_op op_add (pe_op op_mul (pv 3) pe_int) (pe_op op_mod (pe_callTy call_int1 (by rfl) T.int (by decide +kernel) (pa_cons (pv 5) pa_nil)) pe_int)) (pe_op op_mul pe_int (pv 4))) pa_nil)) pe_int))))
        (pss_one (ps_ret (pe_lst (pa_cons (pe_ifExp (pt_cmpR op_ge (pv 2) (pe_op op_pow pe_int pe_int) (nomark _)) (pv 2) pe_int) (pa_cons (pv 3) (pa_cons pe_int pa_nil))))))))), ?_⟩
    refine asg_of (R := fun v H' => ∃ c : Int, v = .int c ∧ 0 ≤ c ∧ H' = H) (fun Q' q' => ?_) fun v H' ⟨c, e, hc, eH⟩ => ?_
    · refine ⟨_, rfl, _, rfl, _, _, rfl, .inl hS, _, _, rfl, rfl, _, rfl, ?_⟩
      refine ite2 (fun z => ?_) (fun z => ?_)
      · have z' : k < ((ns.map V.int).length : Int) := of_decide_eq_true z
        obtain ⟨j, rfl⟩ := Int.eq_ofNat_of_zero_le hk
        rw [List.length_map] at z'
        have hj : j < ns.length := by omega
        refine ⟨_, rfl, _, rfl, _, _, _, _, rfl, rfl, hS, atI_nat (by rw [List.getElem?_map, List.getElem?_eq_getElem hj]; rfl), .inl ⟨_, rfl, _, rfl, ?_⟩⟩
        refine q' _ _ ⟨_, rfl, ?_, rfl⟩
        split <;> omega
      · exact q' _ _ ⟨0, rfl, Int.le_refl _, rfl⟩
    · subst e eH
      refine ⟨_, rfl, _, _, rfl, rfl, .inl ⟨by decide, by decide⟩, _, _, rfl, rfl, ?_⟩
      refine ⟨_, rfl, _, rfl, _, _, rfl, hS, fun p hp => ?_⟩
      obtain ⟨ms, em, hm⟩ := cut_ints ns (some 63)
      have hp2 : (upd H' p (.lst (cutV (ns.map V.int) none (some 63)))) p = some (.lst (ms.map V.int)) := by rw [upd_same, em]
      refine ⟨p, _, rfl, SqL.of hp2, for_it (walk_enum (K := K) (a := p) (xs := ms.map V.int)) (fun i σ H2 => ∃ (mix : Int) (u v : Option V), σ = [some (.ref a), some (.int k), some (.int c), some (.int mix), u, v] ∧ 0 ≤ mix ∧ mix < 2 ^ 40 ∧ Same H' H2 ∧ H2 p = some (.lst (ms.map V.int))) ?_ (fun i σ H2 _ ⟨_, _, _, _, _, _, _, h⟩ => SqL.of h) ?_ ?_⟩
      · refine ⟨70003 + 6997 * k, none, none, rfl, by omega, by omega, same_new hp, hp2⟩
      · rintro i x σ H2 H3 hi ⟨mix, u, v, rfl, h0, h1, s2, h2⟩ ⟨t, x1, x2, rfl, ht, rfl, e1, e2⟩
        cases e1
        obtain ⟨z, rfl, _⟩ := int_at e2
        have hi' : i < 63 := by rw [List.length_map] at hi; omega
        refine ⟨t, _, rfl, SqT.of upd_same, rfl, _, _, rfl, _, _, rfl, rfl, ?_⟩
        refine ⟨_, rfl, _, _, rfl, rfl, .inr ⟨by decide, by decide⟩, ?_⟩
        refine ⟨_, rfl, .inl ⟨_, rfl, _, _, rfl, rfl, (by show (0 : Int) < 2147483543; decide), ?_⟩⟩
        refine ⟨_, _, rfl, rfl, _, rfl, _, _, rfl, rfl, .inl ⟨by decide, by decide⟩, ?_⟩
        refine ⟨_, _, rfl, rfl, .inl ⟨_, rfl, _, _, rfl, rfl, (by show (0 : Int) < 2147483563; decide), ?_⟩⟩
        refine ⟨_, _, _, rfl, Int.emod_nonneg _ (by decide), Int.lt_trans (Int.emod_lt_of_pos _ (by decide)) (by decide), s2.trans (same_new ht), ?_⟩
        rw [upd_ne (ne_of_none h2 ht)]
        exact h2
      · rintro σ H2 ⟨mix, u, v, rfl, h0, h1, s2, h2⟩
        dsimp only
        refine asg_ret (R := fun v H' => ∃ c : Int, v = .int c ∧ 0 ≤ c ∧ H' = H2) (fun Q' q' => ?_) fun v H' ⟨c, e, hc, eH⟩ => ?_
        · refine ⟨_, rfl, _, _, rfl, rfl, ⟨by decide, by decide, by decide⟩, _, _, rfl, rfl, _, rfl, ?_⟩
          refine ite2 (fun z => ?_) (fun z => ?_)
          · exact ⟨_, rfl, q' _ _ ⟨_, rfl, hc, rfl⟩⟩
          · exact q' _ _ ⟨0, rfl, Int.le_refl _, rfl⟩
        · subst e eH
          refine ⟨_, rfl, (by show 3 ≤ sizeLine; decide), fun b hb => q b _ (s2.free hb) (s2.trans (same_new hb)) ⟨c, mix, 0, upd_same, hc, h0, h1, Int.le_refl _⟩⟩
end
end My
set_option Elab.async false
set_option maxRecDepth 100000
set_option maxHeartbeats 4000000
namespace My
open PySem L2
theorem Bag.same {H H' : Hp} {b : Addr} (h : Bag H b) (s : Same H H') : Bag H' b := by
  obtain ⟨c, m, n, e, r⟩ := h
  exact ⟨c, m, n, s _ _ e, r⟩
theorem Bag.ne {H : Hp} {b l : Addr} (h : Bag H b) (s : H l = none) : l ≠ b := fun e => by
  obtain ⟨c, m, n, z, r⟩ := h
  rw [e, z] at s; cases s
theorem at_exists {xs : List V} {r : Int} (h0 : 0 ≤ r) (h1 : r < (xs.length : Int)) : ∃ (i : Nat) (v : V), xs[i]? = some v ∧ atI xs r = some v := by
  obtain ⟨j, rfl⟩ := Int.eq_ofNat_of_zero_le h0
  have hj : j < xs.length := by omega
  exact ⟨j, xs[j], by simp [hj], atI_nat (by simp [hj])⟩
section
variable {P : Program} {w : World} {K : PySem.W.Frag} {mg : Str → Option Value} {base : Heap}
abbrev s_l_of : Stmt := top 19
abbrev N_l_of : List Str := ["_law_bag_here", "_law_some"]
theorem sc_l_of : FnScope N_l_of ["_law_bag_here", "_law_some"] (defScope s_l_of) := ⟨rfl, rfl, rfl, by decide +kernel, rfl, by decide +kernel, by decide +kernel⟩
theorem ok_l_of {f fT : Addr} {fd fdT : FuncData} (F : Fun K "_law_of" "_law_of" s_l_of f fd) (T : Bt mg) (D_l_take : Df K mg "_law_take" ["_law_bag_here", "_law_many"] fT fdT)
    (G_l_take : FnOk P w K mg base CX0 2 fT fdT ["_law_bag_here", "_law_many"] sp_l_take) : FnOk P w K mg base CX0 3 f fd ["_law_bag_here", "_law_some"] sp_l_of := by
  refine F.ok sc_l_of (fun vs H Q E h => ?_) (fun cdv A outer s H vs Q E hr h => ?_)
  · obtain ⟨b, a, xs, rfl, _⟩ := h
    rfl
  · obtain ⟨b, a, xs, rfl, hB, nab, ha, hl, hl2, q⟩ := h
    refine ⟨_, (pss_one (ps_ret (pe_ix ix_list (pv 1) (pe_call G_l_take (hr.mono (by decide)) (by rfl) D_l_take.g D_l_take.kp D_l_take.b .nil pass0 (pa_cons (pv 0) (pa_cons (pe_callB call_len_seq (by rfl) T.len (by decide +kernel) (pa_cons (pv 1) pa_nil)) pa_nil))) (fun _ _ => rfl)))), ?_⟩
    refine ⟨_, rfl, _, rfl, _, rfl, _, _, rfl, .inl (SqL.of ha), b, _, rfl, hB, by omega, ?_, fun r H' h0 h1 hB' hk => ?_⟩
    · exact Int.lt_of_le_of_lt (b := 100000) (by omega) (by decide +kernel)
    · obtain ⟨i, v, e1, e2⟩ := at_exists h0 h1
      exact ⟨a, xs, r, v, rfl, rfl, SqL.of (hk a _ nab ha), e2, q i v H' e1 hB' hk⟩

abbrev s_l_number : Stmt := top 20
abbrev N_l_number : List Str := ["_law_bag_here", "_law_far", "_law_number_here"]
theorem sc_l_number : FnScope N_l_number ["_law_bag_here"] (defScope s_l_number) := ⟨rfl, rfl, rfl, by decide +kernel, rfl, by decide +kernel, by decide +kernel⟩
/-- a number of the law's draw -/
def Drawn (z : Int) : Prop := z.natAbs < 2 ^ 210
def sp_l_number : Sp := fun vs H Q _ => ∃ (b : Addr), vs = [.ref b] ∧ Bag H b ∧ ∀ (r : Int) (H' : Hp), Drawn r → Bag H' b → But b H H' → Q (.int r) H'
theorem ok_l_number {f fT fO : Addr} {fd fdT fdO : FuncData} (F : Fun K "_law_number" "_law_number" s_l_number f fd) (D_l_take : Df K mg "_law_take" ["_law_bag_here", "_law_many"] fT fdT) (D_l_of : Df K mg "_law_of" ["_law_bag_here", "_law_some"] fO fdO)
    (G_l_take : FnOk P w K mg base CX0 2 fT fdT ["_law_bag_here", "_law_many"] sp_l_take) (G_l_of : FnOk P w K mg base CX0 3 fO fdO ["_law_bag_here", "_law_some"] sp_l_of) : FnOk P w K mg base CX0 4 f fd ["_law_bag_here"] sp_l_number := by
  refine F.ok sc_l_number (fun vs H Q E h => ?_) (fun cdv A outer s H vs Q E hr h => ?_)
  · obtain ⟨b, rfl, _⟩ := h
    rfl
  · obtain ⟨b, rfl, hB, q⟩ := h
    refine ⟨_, (pss_cons (ps_set (i := 1) sc_l_number.nd rfl (Or.inl rfl) (pe_call G_l_of (hr.mono (by decide)) (by rfl) D_l_of.g D_l_of.kp D_l_of.b .nil pass0 (pa_cons (pv 0) (pa_cons (pe_lst (pa_cons pe_int (pa_cons pe_int (pa_cons pe_int (pa_cons pe_int (pa_cons (pe_op op_pow pe_int pe_int) (pa_cons (pe_op op_pow pe_int pe_int) (pa_cons (pe_op op_pow pe_int pe_int) pa_nil)))))))) pa_nil))))
        (pss_cons (ps_set (i := 2) sc_l_number.nd rfl (Or.inl rfl) (pe_op op_sub (pe_call G_l_take (hr.mono (by decide)) (by rfl) D_l_take.g D_l_take.kp D_l_take.b .nil pass0 (pa_cons (pv 0) (pa_cons (pe_op op_add (pe_op op_mul pe_int (pv 1)) pe_int) pa_nil))) (pv 1)))
        (pss_one (ps_ret (pe_op op_mulX (pv 2) (pe_call G_l_of (hr.mono (by decide)) (by rfl) D_l_of.g D_l_of.kp D_l_of.b .nil pass0 (pa_cons (pv 0) (pa_cons (pe_lst (pa_cons pe_int (pa_cons pe_int (pa_cons pe_int (pa_cons pe_int pa_nil))))) pa_nil)))))))), ?_⟩
    refine ⟨_, rfl, _, _, rfl, rfl, ⟨by decide, by decide, by decide⟩, _, _, rfl, rfl, ⟨by decide, by decide, by decide⟩, _, _, rfl, rfl, ⟨by decide, by decide, by decide⟩, (by show 7 ≤ sizeLine; decide), fun l hl => ?_⟩
    refine ⟨b, l, _, rfl, hB.same (same_new hl), hB.ne hl, upd_same, (by decide), (by decide), fun i v H1 hv hB2 hk => ?_⟩
    have hm := List.mem_of_getElem? hv
    obtain ⟨z, rfl, h1, h2⟩ : ∃ z : Int, v = .int z ∧ 1 ≤ z ∧ z ≤ 10 ^ 60 := by
      simp only [List.mem_cons, List.not_mem_nil, or_false] at hm
      rcases hm with rfl | rfl | rfl | rfl | rfl | rfl | rfl <;> exact ⟨_, rfl, by decide +kernel, by decide +kernel⟩
    have hk1 : But b H H1 := (But.of (same_new hl)).trans hk
    have e60 : (10 : Int) ^ 60 < 2 ^ 200 := by decide +kernel
    have e201 : (2 : Int) * 2 ^ 200 + 1 < 2 ^ 8000 := by decide +kernel
    refine ⟨_, rfl, _, rfl, _, _, rfl, rfl, .inl ⟨by decide, by decide⟩, _, _, rfl, rfl, b, _, rfl, hB2, by omega, by omega, fun r H2 r0 r1 hB3 hk3 => ?_⟩
    refine ⟨_, rfl, _, _, rfl, rfl, ?_⟩
    refine ⟨_, rfl, _, rfl, (by show 4 ≤ sizeLine; decide), fun l2 hl2 => ?_⟩
    refine ⟨b, l2, _, rfl, hB3.same (same_new hl2), hB3.ne hl2, upd_same, (by decide), (by decide), fun i v H3 hv hB4 hk4 => ?_⟩
    have hm := List.mem_of_getElem? hv
    obtain ⟨y, rfl, h3, h4⟩ : ∃ z : Int, v = .int z ∧ 1 ≤ z ∧ z ≤ 6 := by
      simp only [List.mem_cons, List.not_mem_nil, or_false] at hm
      rcases hm with rfl | rfl | rfl | rfl <;> exact ⟨_, rfl, by decide +kernel, by decide +kernel⟩
    have b1 : (r - z).natAbs < 2 ^ 201 := by
      have : (2 : Nat) ^ 201 = 2 * 2 ^ 200 := by decide +kernel
      have e : ((2 ^ 200 : Nat) : Int) = 2 ^ 200 := by decide +kernel
      omega
    have b2 : y.natAbs < 2 ^ 3 := by omega
    refine ⟨_, _, rfl, rfl, mulx_ok b1 b2 (by decide), q _ _ (Nat.lt_trans (wide_lt b1 b2) (by decide +kernel)) hB4 ((hk1.trans hk3).trans ((But.of (same_new hl2)).trans hk4))⟩
end
end My
set_option Elab.async false
set_option maxRecDepth 100000
set_option maxHeartbeats 4000000
namespace My
open PySem L2
/-! ### Euclid's turns -/
theorem euclid_half {a b : Nat} (hb : 0 < b) (h : b < a) : 2 * (b * (a % b)) ≤ a * b := by
  have h1 : a % b < b := Nat.mod_lt _ hb
  have h2 := Nat.div_add_mod a b
  have h3 : 1 ≤ a / b := (Nat.one_le_div_iff hb).mpr (Nat.le_of_lt h)
  have h4 : b * 1 ≤ b * (a / b) := Nat.mul_le_mul_left b h3
  have h5 : 2 * (a % b) ≤ a := by omega
  calc 2 * (b * (a % b)) = b * (2 * (a % b)) := by rw [Nat.mul_left_comm]
    _ ≤ b * a := Nat.mul_le_mul_left b h5
    _ = a * b := Nat.mul_comm _ _
def Eu (G i a b : Nat) : Prop := Nat.gcd a b = G ∧ ((i = 0 ∧ a < 2 ^ 900 ∧ b < 2 ^ 900) ∨ (0 < i ∧ b < a ∧ a * b < 2 ^ (1801 - i)))
theorem Eu.turn {G i a b : Nat} (h : Eu G i a b) (hb : b ≠ 0) : Eu G (i + 1) b (a % b) := by
  obtain ⟨hg, h⟩ := h
  have hp : 0 < b := Nat.pos_of_ne_zero hb
  refine ⟨?_, .inr ⟨Nat.succ_pos _, Nat.mod_lt _ hp, ?_⟩⟩
  · rw [← hg, Nat.gcd_comm a b, Nat.gcd_rec b a, Nat.gcd_comm]
  · rcases h with ⟨rfl, h1, h2⟩ | ⟨h0, h1, h2⟩
    · have h3 : a % b < 2 ^ 900 := Nat.lt_trans (Nat.mod_lt _ hp) h2
      calc b * (a % b) < 2 ^ 900 * 2 ^ 900 := Nat.mul_lt_mul'' h2 h3
        _ = 2 ^ (1801 - (0 + 1)) := by rw [← Nat.pow_add]
    · have h4 := euclid_half hp h1
      by_cases hi : i < 1801
      · have e : 1801 - i = (1801 - (i + 1)) + 1 := by omega
        rw [e, Nat.pow_succ] at h2
        omega
      · have e : 1801 - i = 0 := by omega
        rw [e, Nat.pow_zero] at h2
        have h5 : 0 < a * b := Nat.mul_pos (by omega) hp
        omega
theorem Eu.done {G a b : Nat} (h : Eu G 2000 a b) : b = 0 := by
  obtain ⟨_, h⟩ := h
  rcases h with ⟨h, _⟩ | ⟨_, h1, h2⟩
  · cases h
  · have e : 1801 - 2000 = 0 := by decide
    rw [e, Nat.pow_zero] at h2
    cases b with
    | zero => rfl
    | succ b =>
      have h5 : 0 < a * (b + 1) := Nat.mul_pos (by omega) (by omega)
      omega
theorem abs_nat (i : Int) : (if i < 0 then -i else i) = ((i.natAbs : Nat) : Int) := by
  split <;> omega

def sp_l_divisor : Sp := fun vs H Q _ => ∃ (x y : Int), vs = [.int x, .int y] ∧ x.natAbs < 2 ^ 900 ∧ y.natAbs < 2 ^ 900 ∧ Q (.int ((Nat.gcd x.natAbs y.natAbs : Nat) : Int)) H
section
variable {P : Program} {w : World} {K : PySem.W.Frag} {mg : Str → Option Value} {base : Heap}
abbrev s_l_divisor : Stmt := top 21
abbrev N_l_divisor : List Str := ["_law_one", "_law_other", "_law_turn"]
theorem sc_l_divisor : FnScope N_l_divisor ["_law_one", "_law_other"] (defScope s_l_divisor) := ⟨rfl, rfl, rfl, by decide +kernel, rfl, by decide +kernel, by decide +kernel⟩
theorem ok_l_divisor {f : Addr} {fd : FuncData} (F : Fun K "_law_divisor" "_law_divisor" s_l_divisor f fd) (T : Bt mg) : FnOk P w K mg base CX0 2 f fd ["_law_one", "_law_other"] sp_l_divisor := by
  refine F.ok sc_l_divisor (fun vs H Q E h => ?_) (fun cdv A outer s H vs Q E hr h => ?_)
  · obtain ⟨x, y, rfl, _⟩ := h
    rfl
  · obtain ⟨x, y, rfl, hx, hy, q⟩ := h
    refine ⟨_, (pss_cons (ps_par (i := 0) (j := 1) (by rfl) sc_l_divisor.nd rfl rfl (by decide) rfl rfl (pa_cons (pe_callB call_abs (by rfl) T.abs (by decide +kernel) (pa_cons (pv 0) pa_nil)) (pa_cons (pe_callB call_abs (by rfl) T.abs (by decide +kernel) (pa_cons (pv 1) pa_nil)) pa_nil)) (by rfl))
        (pss_cons (ps_for PassesOwn.never rfl (pi_range1 (by rfl) T.range (pa_cons pe_int pa_nil)) (pg_name (i := 2) sc_l_divisor.nd rfl (Or.inl rfl)) (pss_cons (ps_if (pt_cmpR op_eq (pv 1) pe_int (nomark _)) (pss_one (ps_ret (pv 0))) pss_nil)
        (pss_one (ps_par (i := 0) (j := 1) (by rfl) sc_l_divisor.nd rfl rfl (by decide) rfl rfl (pa_cons (pv 1) (pa_cons (pe_op op_mod (pe_callTy call_int1 (by rfl) T.int (by decide +kernel) (pa_cons (pv 0) pa_nil)) (pv 1)) pa_nil)) (by rfl)))))
        (pss_one (ps_ret (pv 0))))), ?_⟩
    refine ⟨_, rfl, _, rfl, _, rfl, _, rfl, _, _, rfl, ?_⟩
    refine ⟨2000, rfl, by decide, by decide, for_range (n := 2000) (fun i σ H' => H' = H ∧ ∃ (a b : Nat) (u : Option V), σ = [some (.int (a : Int)), some (.int (b : Int)), u] ∧ Eu (Nat.gcd x.natAbs y.natAbs) i a b) ?_ ?_ ?_⟩
    · exact ⟨rfl, x.natAbs, y.natAbs, none, by rw [← abs_nat x, ← abs_nat y]; rfl, rfl, .inl ⟨rfl, hx, hy⟩⟩
    · rintro i σ H' hi ⟨rfl, a, b, u, rfl, he⟩
      refine ⟨_, rfl, rfl, _, rfl, ?_⟩
      refine ite2 (fun z => ?_) (fun z => ?_)
      · have z' : V.int (b : Int) = V.int 0 := of_decide_eq_true z
        have e : b = 0 := by injection z' with z'; omega
        subst e
        have e2 : a = Nat.gcd x.natAbs y.natAbs := by rw [← he.1, Nat.gcd_zero_right]
        refine ⟨_, rfl, ?_⟩
        rw [e2]
        exact q
      · have e : b ≠ 0 := fun e => z (by rw [e]; decide)
        refine ⟨_, rfl, _, rfl, .inl ⟨_, rfl, _, rfl, _, _, rfl, rfl, by omega, _, _, rfl, ?_⟩⟩
        exact ⟨rfl, b, a % b, _, rfl, he.turn e⟩
    · rintro σ H' ⟨rfl, a, b, u, rfl, he⟩
      have e := he.done
      subst e
      have e2 : a = Nat.gcd x.natAbs y.natAbs := by rw [← he.1, Nat.gcd_zero_right]
      refine ⟨_, rfl, ?_⟩
      rw [e2]
      exact q
end
end My
set_option Elab.async false
set_option maxRecDepth 100000
set_option maxHeartbeats 4000000
namespace My
open PySem L2
/-! ### ratios -/
/-- p / q is t / b in lowest terms -/
def Rat (t b p q : Int) : Prop := 1 ≤ q ∧ p * b = q * t ∧ Nat.gcd p.natAbs q.natAbs = 1
theorem rat_of {t b : Int} (hb : 0 < b) : Rat t b (t / ((Nat.gcd t.natAbs b.natAbs : Nat) : Int)) (b / ((Nat.gcd t.natAbs b.natAbs : Nat) : Int)) ∧
    (t / ((Nat.gcd t.natAbs b.natAbs : Nat) : Int)).natAbs ≤ t.natAbs ∧ (b / ((Nat.gcd t.natAbs b.natAbs : Nat) : Int)).natAbs ≤ b.natAbs ∧ 0 < Nat.gcd t.natAbs b.natAbs ∧ Nat.gcd t.natAbs b.natAbs ≤ b.natAbs := by
  have hb1 : 0 < b.natAbs := by omega
  generalize hg : Nat.gcd t.natAbs b.natAbs = g
  have hg0 : 0 < g := by rw [← hg]; exact Nat.gcd_pos_of_pos_right _ hb1
  have d1 : (g : Int) ∣ t := by rw [← hg]; exact Int.ofNat_dvd_left.mpr (Nat.gcd_dvd_left _ _)
  have d2 : (g : Int) ∣ b := by rw [← hg]; exact Int.ofNat_dvd_left.mpr (Nat.gcd_dvd_right _ _)
  obtain ⟨p, hp⟩ := d1
  obtain ⟨q, hq⟩ := d2
  have gz : (g : Int) ≠ 0 := by omega
  have e1 : t / (g : Int) = p := by rw [hp]; exact Int.mul_ediv_cancel_left _ gz
  have e2 : b / (g : Int) = q := by rw [hq]; exact Int.mul_ediv_cancel_left _ gz
  rw [e1, e2]
  have n1 : t.natAbs = g * p.natAbs := by rw [hp, Int.natAbs_mul]; rfl
  have n2 : b.natAbs = g * q.natAbs := by rw [hq, Int.natAbs_mul]; rfl
  have q1 : 1 ≤ q := by
    have : 0 < (g : Int) * q := by rw [← hq]; exact hb
    have := Int.pos_of_mul_pos_right this (by omega)
    omega
  refine ⟨⟨q1, ?_, ?_⟩, ?_, ?_, hg0, ?_⟩
  · rw [hp, hq, Int.mul_left_comm, Int.mul_left_comm q, Int.mul_comm p q]
  · rw [n1, n2, Nat.gcd_mul_left] at hg
    have : g * Nat.gcd p.natAbs q.natAbs = g * 1 := by omega
    exact Nat.eq_of_mul_eq_mul_left hg0 this
  · rw [n1]; exact Nat.le_mul_of_pos_left _ hg0
  · rw [n2]; exact Nat.le_mul_of_pos_left _ hg0
  · rw [← hg]; exact Nat.le_of_dvd hb1 (Nat.gcd_dvd_right _ _)
theorem Rat.neg {t b p q : Int} (h : Rat (-t) (-b) p q) : Rat t b p q := by
  obtain ⟨h1, h2, h3⟩ := h
  exact ⟨h1, by rw [Int.mul_neg, Int.mul_neg] at h2; omega, h3⟩

/-- an own error class without fields -/
structure Err (K : PySem.W.Frag) (mg : Str → Option Value) (x : Str) (C fI : Addr) (fd : FuncData) : Prop where
  g : mg x = some (.ref C)
  oex : OexC K C
  iC : PySem.W.findIn K (.ref C) "__init__" = some (some (.ref fI))
  tI : PySem.W.typeIn K (.ref fI) = some (.type "function")
  b : Binds K fd ["self"] []
  te : PySem.W.exmOne K (.ref C) (.ref C) = some true
structure BtR (mg : Str → Option Value) : Prop where
  isinstance : mg "isinstance" = none
  int : mg "int" = none
  bool : mg "bool" = none
  tuple : mg "tuple" = none
  len : mg "len" = none
  gcd : mg "gcd" = some (.builtin "math.gcd")

def sp_is_whole (K : PySem.W.Frag) : Sp := fun vs H Q _ => ∃ (x : V) (lo hi : Int), vs = [x, .int lo, .int hi] ∧
  ((∃ i, x = .int i ∧ Q (.bl (decide (lo ≤ i) && decide (i ≤ hi))) H) ∨ (∃ k, x = .bl k ∧ Q (.bl false) H) ∨ ∃ t, TyX K H x (.type t) ∧ kitB t "int" = some false ∧ Q (.bl false) H)
def sp_ratio_pos : Sp := fun vs H Q _ => ∃ (t b : Int), vs = [.int t, .int b] ∧ b.natAbs < 2 ^ 800 ∧ 0 < b ∧
  ∀ (p q : Int) (a : Addr), Rat t b p q → p.natAbs ≤ t.natAbs → q.natAbs ≤ b.natAbs → H a = none → Q (.ref a) (upd H a (.tup [.int p, .int q]))
def sp_ratio (C : Addr) : Sp := fun vs H Q E => ∃ (t b : Int), vs = [.int t, .int b] ∧ b.natAbs < 2 ^ 800 ∧ (b = 0 → E (.ref C) none H) ∧
  (b ≠ 0 → ∀ (p q : Int) (a : Addr), Rat t b p q → p.natAbs ≤ t.natAbs → q.natAbs ≤ b.natAbs → H a = none → Q (.ref a) (upd H a (.tup [.int p, .int q])))
section
variable {P : Program} {w : World} {K : PySem.W.Frag} {mg : Str → Option Value} {base : Heap}
abbrev s_BadRatio_init : Stmt := inClass (top 3) 0
theorem sc_BadRatio_init : FnScope ["self"] ["self"] (defScope s_BadRatio_init) := ⟨rfl, rfl, rfl, by decide +kernel, rfl, by decide +kernel, by decide +kernel⟩
theorem ok_BadRatio_init {f : Addr} {fd : FuncData} (F : Fun K "__init__" "BadRatio.__init__" s_BadRatio_init f fd) : FnOk P w K mg base CX0 2 f fd ["self"] sp_pass := by
  refine F.ok sc_BadRatio_init (fun vs H Q E h => ?_) (fun cdv A outer s H vs Q E hr h => ?_)
  · obtain ⟨a, rfl, _⟩ := h
    rfl
  · obtain ⟨a, rfl, q⟩ := h
    exact ⟨_, pss_one ps_pass, q⟩
abbrev s_is_number : Stmt := top 5
abbrev N_is_number : List Str := ["thing"]
theorem sc_is_number : FnScope N_is_number ["thing"] (defScope s_is_number) := ⟨rfl, rfl, rfl, by decide +kernel, rfl, by decide +kernel, by decide +kernel⟩
def sp_num (K : PySem.W.Frag) : Sp := fun vs H Q _ => ∃ x : V, vs = [x] ∧
  ((∃ i, x = .int i ∧ Q (.bl true) H) ∨ (∃ k, x = .bl k ∧ Q (.bl false) H) ∨ ∃ t, TyX K H x (.type t) ∧ kitB t "int" = some false ∧ Q (.bl false) H)
theorem ok_is_number {f : Addr} {fd : FuncData} (F : Fun K "is_number" "is_number" s_is_number f fd) (T : BtR mg) : FnOk P w K mg base CX0 1 f fd ["thing"] (sp_num K) := by
  refine F.ok sc_is_number (fun vs H Q E h => ?_) (fun cdv A outer s H vs Q E hr h => ?_)
  · obtain ⟨x, rfl, _⟩ := h
    rfl
  · obtain ⟨x, rfl, q⟩ := h
    refine ⟨_, (pss_one (ps_ret (pe_and (pe_callB call_isi (by rfl) T.isinstance (by decide +kernel) (pa_cons (pv 0) (pa_cons (pe_bltn (v := .ty "int") (by rfl) T.int (by decide +kernel) rfl) pa_nil))) (pe_one (pe_not (pe_callB call_isi (by rfl) T.isinstance (by decide +kernel) (pa_cons (pv 0) (pa_cons (pe_bltn (v := .ty "bool") (by rfl) T.bool (by decide +kernel) rfl) pa_nil)))))))), ?_⟩
    rcases q with ⟨i, rfl, q⟩ | ⟨k, rfl, q⟩ | ⟨t, ty, kt, q⟩
    · refine ⟨_, rfl, _, _, _, _, true, rfl, .ty "int", .base (.int i), kit_ty (by decide +kernel), true, rfl, iteT ?_⟩
      exact ⟨_, rfl, _, _, _, _, false, rfl, .ty "bool", .base (.int i), kit_ty (by decide +kernel), false, rfl, q⟩
    · refine ⟨_, rfl, _, _, _, _, true, rfl, .ty "int", .base (.bl k), kit_ty (by decide +kernel), true, rfl, iteT ?_⟩
      exact ⟨_, rfl, _, _, _, _, true, rfl, .ty "bool", .base (.bl k), kit_ty (by decide +kernel), true, rfl, q⟩
    · exact ⟨_, rfl, _, _, _, _, false, rfl, .ty "int", ty, kit_ty kt, false, rfl, iteF q⟩
abbrev s_is_whole : Stmt := top 6
abbrev N_is_whole : List Str := ["thing", "low", "high"]
theorem sc_is_whole : FnScope N_is_whole ["thing", "low", "high"] (defScope s_is_whole) := ⟨rfl, rfl, rfl, by decide +kernel, rfl, by decide +kernel, by decide +kernel⟩
theorem ok_is_whole {f fN : Addr} {fd fdN : FuncData} (F : Fun K "is_whole" "is_whole" s_is_whole f fd) (D_is_number : Df K mg "is_number" ["thing"] fN fdN) (G_is_number : FnOk P w K mg base CX0 1 fN fdN ["thing"] (sp_num K)) : FnOk P w K mg base CX0 2 f fd ["thing", "low", "high"] (sp_is_whole K) := by
  refine F.ok sc_is_whole (fun vs H Q E h => ?_) (fun cdv A outer s H vs Q E hr h => ?_)
  · obtain ⟨x, lo, hi, rfl, _⟩ := h
    rfl
  · obtain ⟨x, lo, hi, rfl, q⟩ := h
    refine ⟨_, (pss_one (ps_ret (pe_and (pe_call G_is_number (hr.mono (by decide)) (by rfl) D_is_number.g D_is_number.kp D_is_number.b .nil pass0 (pa_cons (pv 0) pa_nil)) (pe_one (pe_chain op_le op_le (pv 1) (pv 0) (pv 2)))))), ?_⟩
    refine ⟨_, rfl, x, rfl, ?_⟩
    rcases q with ⟨i, rfl, q⟩ | ⟨k, rfl, q⟩ | ⟨t, ty, kt, q⟩
    · refine .inl ⟨i, rfl, ?_⟩
      refine ⟨_, rfl, iteT ⟨_, rfl, _, rfl, _, _, rfl, rfl, _, rfl, ?_⟩⟩
      refine ite2 (fun z => ?_) (fun z => ?_)
      · refine ⟨_, rfl, _, _, rfl, rfl, ?_⟩
        rw [z, Bool.true_and] at q
        exact q
      · rw [Bool.eq_false_iff.mpr z, Bool.false_and] at q
        exact q
    · exact .inr (.inl ⟨k, rfl, _, rfl, iteF q⟩)
    · exact .inr (.inr ⟨t, ty, kt, _, rfl, iteF q⟩)
abbrev s_ratio : Stmt := top 7
abbrev N_ratio : List Str := ["top", "bottom", "shared"]
theorem sc_ratio : FnScope N_ratio ["top", "bottom"] (defScope s_ratio) := ⟨rfl, rfl, rfl, by decide +kernel, rfl, by decide +kernel, by decide +kernel⟩
theorem ok_ratio_pos {f : Addr} {fd : FuncData} (F : Fun K "ratio" "ratio" s_ratio f fd) (T : BtR mg) : FnOk P w K mg base CX0 2 f fd ["top", "bottom"] sp_ratio_pos := by
  refine F.ok sc_ratio (fun vs H Q E h => ?_) (fun cdv A outer s H vs Q E hr h => ?_)
  · obtain ⟨t, b, rfl, _⟩ := h
    rfl
  · obtain ⟨t, b, rfl, hb, h0, q⟩ := h
    refine ⟨_, (pss_cons (ps_if (pt_cmpR op_eq (pv 1) pe_int (nomark _)) pss_never pss_nil)
        (pss_cons (ps_if (pt_cmpR op_lt (pv 1) pe_int (nomark _)) pss_never pss_nil)
        (pss_cons (ps_set (i := 2) sc_ratio.nd rfl (Or.inl rfl) (pe_callBfun cr_gcd (by rfl) T.gcd (pa_cons (pv 0) (pa_cons (pv 1) pa_nil))))
        (pss_one (ps_ret (pe_tup (pa_cons (pe_op op_fdivW (pv 0) (pv 2)) (pa_cons (pe_op op_fdivW (pv 1) (pv 2)) pa_nil)))))))), ?_⟩
    refine ⟨_, rfl, rfl, _, rfl, ite2 (fun z => ?_) (fun _ => ?_)⟩
    · have z' : V.int b = V.int 0 := of_decide_eq_true z
      injection z' with z'
      omega
    refine ⟨_, rfl, _, _, rfl, rfl, _, rfl, ite2 (fun z => ?_) (fun _ => ?_)⟩
    · have z' : b < 0 := of_decide_eq_true z
      omega
    obtain ⟨r, l1, l2, g0, g1⟩ := rat_of (t := t) h0
    have hd : CDivW t ((Nat.gcd t.natAbs b.natAbs : Nat) : Int) := wide_div (b := 800) (by omega) (by omega) (by decide) (by decide)
    have hd2 : CDivW b ((Nat.gcd t.natAbs b.natAbs : Nat) : Int) := wide_div (b := 800) (by omega) (by omega) (by decide) (by decide)
    refine ⟨_, rfl, _, rfl, _, _, rfl, ?_⟩
    refine ⟨_, rfl, _, rfl, _, _, rfl, rfl, hd, _, rfl, _, rfl, _, _, rfl, rfl, hd2, (by show 2 ≤ sizeLine; decide), fun a ha => q _ _ a r l1 l2 ha⟩
theorem ok_ratio {C f fI : Addr} {fd fdI : FuncData} (F : Fun K "ratio" "ratio" s_ratio f fd) (T : BtR mg) (D_ratio : Df K mg "ratio" ["top", "bottom"] f fd) (FI : Fun K "__init__" "BadRatio.__init__" s_BadRatio_init fI fdI) (X : Err K mg "BadRatio" C fI fdI) :
    FnOk P w K mg base (L2.CX P w) 4 f fd ["top", "bottom"] (sp_ratio C) := by
  have GI : FnOk P w K mg base CX0 2 fI fdI ["self"] sp_pass := ok_BadRatio_init FI
  have G_ratio : FnOk P w K mg base CX0 2 f fd ["top", "bottom"] sp_ratio_pos := ok_ratio_pos F T
  refine F.okX sc_ratio (fun vs H Q E h => ?_) (fun cdv A outer s H vs Q E hr h => ?_)
  · obtain ⟨t, b, rfl, _⟩ := h
    rfl
  · obtain ⟨t, b, rfl, hb, he, q⟩ := h
    refine ⟨_, (pss_cons (ps_if (pt_cmpR op_eq (pv 1) pe_int (nomark _)) (pss_one (ps_raise rfl (takes_of rfl rfl rfl rfl) (pmk_pass X.oex X.iC X.tI GI (hr.mono (by decide)) X.b (by rfl) X.g))) pss_nil)
        (pss_cons (ps_if (pt_cmpR op_lt (pv 1) pe_int (nomark _)) (pss_one (ps_ret (pe_call G_ratio (hr.mono (by decide)) (by rfl) D_ratio.g D_ratio.kp D_ratio.b .nil pass0 (pa_cons (pe_un un_neg (pv 0)) (pa_cons (pe_un un_neg (pv 1)) pa_nil))))) pss_nil)
        (pss_cons (ps_set (i := 2) sc_ratio.nd rfl (Or.inl rfl) (pe_callBfun cr_gcd (by rfl) T.gcd (pa_cons (pv 0) (pa_cons (pv 1) pa_nil))))
        (pss_one (ps_ret (pe_tup (pa_cons (pe_op op_fdivW (pv 0) (pv 2)) (pa_cons (pe_op op_fdivW (pv 1) (pv 2)) pa_nil)))))))), ?_⟩
    refine ⟨_, rfl, rfl, _, rfl, ite2 (fun z => ?_) (fun z => ?_)⟩
    · have z' : V.int b = V.int 0 := of_decide_eq_true z
      injection z' with z'
      exact he z'
    have nb : b ≠ 0 := fun e => z (by rw [e]; decide)
    refine ⟨_, rfl, _, _, rfl, rfl, _, rfl, ite2 (fun z => ?_) (fun z => ?_)⟩
    · have z' : b < 0 := of_decide_eq_true z
      refine ⟨_, rfl, _, rfl, _, rfl, _, rfl, -t, -b, rfl, by omega, by omega, fun p q' a r l1 l2 ha => q nb p q' a r.neg (by omega) (by omega) ha⟩
    · have z' : ¬ b < 0 := fun y => z (decide_eq_true y)
      obtain ⟨r, l1, l2, g0, g1⟩ := rat_of (t := t) (b := b) (by omega)
      have hd : CDivW t ((Nat.gcd t.natAbs b.natAbs : Nat) : Int) := wide_div (b := 800) (by omega) (by omega) (by decide) (by decide)
      have hd2 : CDivW b ((Nat.gcd t.natAbs b.natAbs : Nat) : Int) := wide_div (b := 800) (by omega) (by omega) (by decide) (by decide)
      refine ⟨_, rfl, _, rfl, _, _, rfl, ?_⟩
      refine ⟨_, rfl, _, rfl, _, _, rfl, rfl, hd, _, rfl, _, rfl, _, _, rfl, rfl, hd2, (by show 2 ≤ sizeLine; decide), fun a ha => q nb _ _ a r l1 l2 ha⟩
end
end My
set_option Elab.async false
set_option maxRecDepth 100000
set_option maxHeartbeats 4000000
namespace My
open PySem L2
def cmp3 (x y : Int) : Int := if x < y then -1 else if y < x then 1 else 0
def Sm (z : Int) : Prop := z.natAbs < 2 ^ 400
theorem Sm.mul {x y : Int} (hx : Sm x) (hy : Sm y) : CMulX x y := mulx_ok hx hy (by decide)
theorem Sm.sq {x y : Int} (hx : Sm x) (hy : Sm y) : (x * y).natAbs < 2 ^ 800 := wide_lt hx hy
def sp_compare : Sp := fun vs H Q _ => ∃ (a b : Addr) (p q r s : Int), vs = [.ref a, .ref b] ∧ H a = some (.tup [.int p, .int q]) ∧ H b = some (.tup [.int r, .int s]) ∧ Sm p ∧ Sm q ∧ Sm r ∧ Sm s ∧ Q (.int (cmp3 (p * s) (r * q))) H
/-- sum and product: of p / q and r / s the ratio of t to d -/
def sp_two (t d : Int → Int → Int → Int → Int) : Sp := fun vs H Q _ => ∃ (a b : Addr) (p q r s : Int), vs = [.ref a, .ref b] ∧ H a = some (.tup [.int p, .int q]) ∧ H b = some (.tup [.int r, .int s]) ∧ Sm p ∧ Sm q ∧ Sm r ∧ Sm s ∧ d p q r s ≠ 0 ∧
  ∀ (x y : Int) (c : Addr), Rat (t p q r s) (d p q r s) x y → x.natAbs ≤ (t p q r s).natAbs → y.natAbs ≤ (d p q r s).natAbs → H c = none → Q (.ref c) (upd H c (.tup [.int x, .int y]))
/-- is_ratio tells True of a right ratio -/
def sp_is_ratio : Sp := fun vs H Q _ => ∃ (a : Addr) (p q t b : Int), vs = [.ref a, .int t, .int b] ∧ H a = some (.tup [.int p, .int q]) ∧ p.natAbs < 2 ^ 900 ∧ q.natAbs < 2 ^ 900 ∧ t.natAbs < 2 ^ 900 ∧ b.natAbs < 2 ^ 900 ∧ Rat t b p q ∧ Q (.bl true) H
def sp_refused : Sp := fun vs H Q _ => ∃ t : Int, vs = [.int t] ∧ Q (.bl true) H
theorem ite_no {c : Prop} [Decidable c] {A B : Prop} (hc : ¬ c) (h : B) : if c then A else B := by rw [if_neg hc]; exact h
theorem ite_yes {c : Prop} [Decidable c] {A B : Prop} (hc : c) (h : A) : if c then A else B := by rw [if_pos hc]; exact h
theorem ite_dn {c : Prop} [Decidable c] {A B : Prop} (hc : ¬ c) (h : B) : if decide c = true then A else B := ite_no (by simpa using hc) h
theorem ite_dy {c : Prop} [Decidable c] {A B : Prop} (hc : c) (h : A) : if decide c = true then A else B := ite_yes (by simpa using hc) h
section
variable {P : Program} {w : World} {K : PySem.W.Frag} {mg : Str → Option Value} {base : Heap}
abbrev s_compare_ratios : Stmt := top 8
abbrev N_compare_ratios : List Str := ["one", "other", "left", "right"]
theorem sc_compare_ratios : FnScope N_compare_ratios ["one", "other"] (defScope s_compare_ratios) := ⟨rfl, rfl, rfl, by decide +kernel, rfl, by decide +kernel, by decide +kernel⟩
theorem ok_compare_ratios {f : Addr} {fd : FuncData} (F : Fun K "compare_ratios" "compare_ratios" s_compare_ratios f fd) : FnOk P w K mg base CX0 2 f fd ["one", "other"] sp_compare := by
  refine F.ok sc_compare_ratios (fun vs H Q E h => ?_) (fun cdv A outer s H vs Q E hr h => ?_)
  · obtain ⟨a, b, p, q, r, s, rfl, _⟩ := h
    rfl
  · obtain ⟨a, b, p, q, r, s, rfl, ha, hb, h1, h2, h3, h4, k⟩ := h
    refine ⟨_, (pss_cons (ps_set (i := 2) sc_compare_ratios.nd rfl (Or.inl rfl) (pe_op op_mulX (pe_ix ix_tup (pv 0) pe_int (fun _ _ => rfl)) (pe_ix ix_tup (pv 1) pe_int (fun _ _ => rfl))))
        (pss_cons (ps_set (i := 3) sc_compare_ratios.nd rfl (Or.inl rfl) (pe_op op_mulX (pe_ix ix_tup (pv 1) pe_int (fun _ _ => rfl)) (pe_ix ix_tup (pv 0) pe_int (fun _ _ => rfl))))
        (pss_cons (ps_if (pt_cmpR op_lt (pv 2) (pv 3) (nomark _)) (pss_one (ps_ret (pe_un un_neg pe_int))) pss_nil)
        (pss_cons (ps_if (pt_cmpR op_gt (pv 2) (pv 3) (nomark _)) (pss_one (ps_ret pe_int)) pss_nil)
        (pss_one (ps_ret pe_int)))))), ?_⟩
    refine ⟨_, rfl, _, _, _, _, rfl, rfl, SqT.of ha, rfl, _, rfl, _, _, _, _, rfl, rfl, SqT.of hb, rfl, _, _, rfl, rfl, h1.mul h4, ?_⟩
    refine ⟨_, rfl, _, _, _, _, rfl, rfl, SqT.of hb, rfl, _, rfl, _, _, _, _, rfl, rfl, SqT.of ha, rfl, _, _, rfl, rfl, h3.mul h2, ?_⟩
    unfold cmp3 at k
    refine ⟨_, rfl, _, rfl, _, _, rfl, rfl, _, rfl, ite2 (fun z => ?_) (fun z => ?_)⟩
    · rw [if_pos (of_decide_eq_true z)] at k
      exact ⟨_, rfl, k⟩
    · rw [if_neg (fun y => z (decide_eq_true y))] at k
      refine ⟨_, rfl, _, rfl, _, _, rfl, rfl, _, rfl, ite2 (fun z => ?_) (fun z => ?_)⟩
      · rw [if_pos (of_decide_eq_true z)] at k
        exact k
      · rw [if_neg (fun y => z (decide_eq_true y))] at k
        exact k
abbrev s_ratio_sum : Stmt := top 9
theorem sc_ratio_sum : FnScope ["one", "other"] ["one", "other"] (defScope s_ratio_sum) := ⟨rfl, rfl, rfl, by decide +kernel, rfl, by decide +kernel, by decide +kernel⟩
theorem ok_ratio_sum {C f fR : Addr} {fd fdR : FuncData} (F : Fun K "ratio_sum" "ratio_sum" s_ratio_sum f fd) (D_ratio : Df K mg "ratio" ["top", "bottom"] fR fdR) (G_ratio : FnOk P w K mg base (L2.CX P w) 4 fR fdR ["top", "bottom"] (sp_ratio C)) :
    FnOk P w K mg base CX0 5 f fd ["one", "other"] (sp_two (fun p q r s => p * s + r * q) fun _ q _ s => q * s) := by
  refine F.ok sc_ratio_sum (fun vs H Q E h => ?_) (fun cdv A outer s H vs Q E hr h => ?_)
  · obtain ⟨a, b, p, q, r, s, rfl, _⟩ := h
    rfl
  · obtain ⟨a, b, p, q, r, s, rfl, ha, hb, h1, h2, h3, h4, h0, k⟩ := h
    refine ⟨_, (pss_one (ps_ret (pe_call G_ratio (hr.mono (by decide)) (by rfl) D_ratio.g D_ratio.kp D_ratio.b .nil passL (pa_cons (pe_op op_add (pe_op op_mulX (pe_ix ix_tup (pv 0) pe_int (fun _ _ => rfl)) (pe_ix ix_tup (pv 1) pe_int (fun _ _ => rfl))) (pe_op op_mulX (pe_ix ix_tup (pv 1) pe_int (fun _ _ => rfl)) (pe_ix ix_tup (pv 0) pe_int (fun _ _ => rfl)))) (pa_cons (pe_op op_mulX (pe_ix ix_tup (pv 0) pe_int (fun _ _ => rfl)) (pe_ix ix_tup (pv 1) pe_int (fun _ _ => rfl))) pa_nil))))), ?_⟩
    refine ⟨_, rfl, _, _, _, _, rfl, rfl, SqT.of ha, rfl, _, rfl, _, _, _, _, rfl, rfl, SqT.of hb, rfl, _, _, rfl, rfl, h1.mul h4, ?_⟩
    refine ⟨_, rfl, _, _, _, _, rfl, rfl, SqT.of hb, rfl, _, rfl, _, _, _, _, rfl, rfl, SqT.of ha, rfl, _, _, rfl, rfl, h3.mul h2, _, _, rfl, rfl, ?_⟩
    refine ⟨_, rfl, _, _, _, _, rfl, rfl, SqT.of ha, rfl, _, rfl, _, _, _, _, rfl, rfl, SqT.of hb, rfl, _, _, rfl, rfl, h2.mul h4, ?_⟩
    exact ⟨_, _, rfl, h2.sq h4, fun e => (h0 e).elim, fun _ x y c hx l1 l2 hc => k x y c hx l1 l2 hc⟩
abbrev s_ratio_product : Stmt := top 10
theorem sc_ratio_product : FnScope ["one", "other"] ["one", "other"] (defScope s_ratio_product) := ⟨rfl, rfl, rfl, by decide +kernel, rfl, by decide +kernel, by decide +kernel⟩
theorem ok_ratio_product {C f fR : Addr} {fd fdR : FuncData} (F : Fun K "ratio_product" "ratio_product" s_ratio_product f fd) (D_ratio : Df K mg "ratio" ["top", "bottom"] fR fdR) (G_ratio : FnOk P w K mg base (L2.CX P w) 4 fR fdR ["top", "bottom"] (sp_ratio C)) :
    FnOk P w K mg base CX0 5 f fd ["one", "other"] (sp_two (fun p _ r _ => p * r) fun _ q _ s => q * s) := by
  refine F.ok sc_ratio_product (fun vs H Q E h => ?_) (fun cdv A outer s H vs Q E hr h => ?_)
  · obtain ⟨a, b, p, q, r, s, rfl, _⟩ := h
    rfl
  · obtain ⟨a, b, p, q, r, s, rfl, ha, hb, h1, h2, h3, h4, h0, k⟩ := h
    refine ⟨_, (pss_one (ps_ret (pe_call G_ratio (hr.mono (by decide)) (by rfl) D_ratio.g D_ratio.kp D_ratio.b .nil passL (pa_cons (pe_op op_mulX (pe_ix ix_tup (pv 0) pe_int (fun _ _ => rfl)) (pe_ix ix_tup (pv 1) pe_int (fun _ _ => rfl))) (pa_cons (pe_op op_mulX (pe_ix ix_tup (pv 0) pe_int (fun _ _ => rfl)) (pe_ix ix_tup (pv 1) pe_int (fun _ _ => rfl))) pa_nil))))), ?_⟩
    refine ⟨_, rfl, _, _, _, _, rfl, rfl, SqT.of ha, rfl, _, rfl, _, _, _, _, rfl, rfl, SqT.of hb, rfl, _, _, rfl, rfl, h1.mul h3, ?_⟩
    refine ⟨_, rfl, _, _, _, _, rfl, rfl, SqT.of ha, rfl, _, rfl, _, _, _, _, rfl, rfl, SqT.of hb, rfl, _, _, rfl, rfl, h2.mul h4, ?_⟩
    exact ⟨_, _, rfl, h2.sq h4, fun e => (h0 e).elim, fun _ x y c hx l1 l2 hc => k x y c hx l1 l2 hc⟩
abbrev s_l_is_ratio : Stmt := top 22
abbrev N_l_is_ratio : List Str := ["_law_told", "_law_top", "_law_bottom", "_law_number_here"]
theorem sc_l_is_ratio : FnScope N_l_is_ratio ["_law_told", "_law_top", "_law_bottom"] (defScope s_l_is_ratio) := ⟨rfl, rfl, rfl, by decide +kernel, rfl, by decide +kernel, by decide +kernel⟩
theorem ok_l_is_ratio {f fD : Addr} {fd fdD : FuncData} (F : Fun K "_law_is_ratio" "_law_is_ratio" s_l_is_ratio f fd) (T : BtR mg) (D_l_divisor : Df K mg "_law_divisor" ["_law_one", "_law_other"] fD fdD) (G_l_divisor : FnOk P w K mg base CX0 2 fD fdD ["_law_one", "_law_other"] sp_l_divisor) :
    FnOk P w K mg base CX0 3 f fd ["_law_told", "_law_top", "_law_bottom"] sp_is_ratio := by
  refine F.ok sc_l_is_ratio (fun vs H Q E h => ?_) (fun cdv A outer s H vs Q E hr h => ?_)
  · obtain ⟨a, p, q, t, b, rfl, _⟩ := h
    rfl
  · obtain ⟨a, p, q, t, b, rfl, ha, hp, hq, ht, hb, ⟨r1, r2, r3⟩, k⟩ := h
    refine ⟨_, (pss_cons (ps_if (PW.pt (pw_or (pt_not (pt_val (pe_callB call_isi (by rfl) T.isinstance (by decide +kernel) (pa_cons (pv 0) (pa_cons (pe_bltn (v := .ty "tuple") (by rfl) T.tuple (by decide +kernel) rfl) pa_nil))))) (pw_or1 (pt_cmpR op_ne (pe_callB call_len_seq (by rfl) T.len (by decide +kernel) (pa_cons (pv 0) pa_nil)) pe_int (nomark _))))) (pss_one (ps_ret pe_bl)) pss_nil)
        (pss_cons (ps_for PassesOwn.never rfl (pi_tup (pv 0)) (pg_name (i := 3) sc_l_is_ratio.nd rfl (Or.inl rfl)) (pss_one (ps_if (PW.pt (pw_or (pt_not (pt_val (pe_callB call_isi (by rfl) T.isinstance (by decide +kernel) (pa_cons (pv 3) (pa_cons (pe_bltn (v := .ty "int") (by rfl) T.int (by decide +kernel) rfl) pa_nil))))) (pw_or1 (pt_val (pe_callB call_isi (by rfl) T.isinstance (by decide +kernel) (pa_cons (pv 3) (pa_cons (pe_bltn (v := .ty "bool") (by rfl) T.bool (by decide +kernel) rfl) pa_nil))))))) (pss_one (ps_ret pe_bl)) pss_nil)))
        (pss_cons (ps_if (PW.pt (pw_or (pt_cmpR op_lt (pe_ix ix_tup (pv 0) pe_int (fun _ _ => rfl)) pe_int (nomark _)) (pw_or1 (pt_cmpR op_ne (pe_op op_mulX (pe_ix ix_tup (pv 0) pe_int (fun _ _ => rfl)) (pv 2)) (pe_op op_mulX (pe_ix ix_tup (pv 0) pe_int (fun _ _ => rfl)) (pv 1)) (nomark _))))) (pss_one (ps_ret pe_bl)) pss_nil)
        (pss_one (ps_ret (pe_cmpR op_eq (pe_call G_l_divisor (hr.mono (by decide)) (by rfl) D_l_divisor.g D_l_divisor.kp D_l_divisor.b .nil pass0 (pa_cons (pe_ix ix_tup (pv 0) pe_int (fun _ _ => rfl)) (pa_cons (pe_ix ix_tup (pv 0) pe_int (fun _ _ => rfl)) pa_nil))) pe_int (nomark _))))))), ?_⟩
    refine ⟨_, rfl, _, _, _, _, true, rfl, .ty "tuple", .base (.tup ha), kit_ty (by decide +kernel), true, rfl, iteF ?_⟩
    refine ⟨_, rfl, _, _, rfl, .inr (SqT.of ha), rfl, _, rfl, iteF ?_⟩
    refine ⟨_, rfl, a, rfl, ⟨_, SqT.of ha⟩, for_tup (K := K) (a := a) (xs := [.int p, .int q]) (fun i σ H' => H' = H ∧ ∃ u, σ = [some (.ref a), some (.int t), some (.int b), u]) ⟨rfl, none, rfl⟩ (fun i σ H' _ h => by rw [h.1]; exact SqT.of ha) ?_ ?_⟩
    · rintro i x σ H' hi ⟨rfl, u, rfl⟩
      have hm := List.mem_of_getElem? hi
      obtain ⟨z, rfl⟩ : ∃ z : Int, x = .int z := by
        simp only [List.mem_cons, List.not_mem_nil, or_false] at hm
        rcases hm with rfl | rfl <;> exact ⟨_, rfl⟩
      refine ⟨_, rfl, _, _, _, _, true, rfl, .ty "int", .base (.int z), kit_ty (by decide +kernel), true, rfl, iteF ?_⟩
      exact ⟨_, rfl, _, _, _, _, false, rfl, .ty "bool", .base (.int z), kit_ty (by decide +kernel), false, rfl, iteF ⟨rfl, _, rfl⟩⟩
    · rintro σ H' ⟨rfl, u, rfl⟩
      refine ⟨_, rfl, _, _, _, _, rfl, rfl, SqT.of ha, rfl, _, _, rfl, rfl, _, rfl, ite_dn (by omega) ?_⟩
      refine ⟨_, rfl, _, _, _, _, rfl, rfl, SqT.of ha, rfl, _, rfl, _, _, rfl, rfl, mulx_ok hp hb (by decide), ?_⟩
      refine ⟨_, rfl, _, _, _, _, rfl, rfl, SqT.of ha, rfl, _, rfl, _, _, rfl, rfl, mulx_ok hq ht (by decide), rfl, _, rfl, iteNS (congrArg V.int r2) ?_⟩
      refine ⟨_, rfl, _, _, _, _, rfl, rfl, SqT.of ha, rfl, _, rfl, _, _, _, _, rfl, rfl, SqT.of ha, rfl, p, q, rfl, hp, hq, rfl, ?_⟩
      rw [r3]
      exact k
abbrev s_l_refused : Stmt := top 23
theorem sc_l_refused : FnScope ["_law_top"] ["_law_top"] (defScope s_l_refused) := ⟨rfl, rfl, rfl, by decide +kernel, rfl, by decide +kernel, by decide +kernel⟩
theorem ok_l_refused {C f fR fI : Addr} {fd fdR fdI : FuncData} (F : Fun K "_law_refused" "_law_refused" s_l_refused f fd) (X : Err K mg "BadRatio" C fI fdI) (D_ratio : Df K mg "ratio" ["top", "bottom"] fR fdR) (G_ratio : FnOk P w K mg base (L2.CX P w) 4 fR fdR ["top", "bottom"] (sp_ratio C)) :
    FnOk P w K mg base CX0 5 f fd ["_law_top"] sp_refused := by
  refine F.ok sc_l_refused (fun vs H Q E h => ?_) (fun cdv A outer s H vs Q E hr h => ?_)
  · obtain ⟨t, rfl, _⟩ := h
    rfl
  · obtain ⟨t, rfl, k⟩ := h
    refine ⟨_, (pss_cons (ps_try_only (tb := fun W => tDrop (tCallS (sp_ratio C) (WE W) (tCons (tVar 0) (tCons (tC (.int 0)) tNil)))) (ts := fun _ _ _ => tRet (tC (.bl true))) (Wout := fun _ _ _ _ => False) rfl rfl ⟨rfl, by decide, Or.inl X.g⟩ takes0
          (fun W pn xe tk _ => pss_one (ps_expr (by exact (pe_callS G_ratio (hr.mono (by decide)) rfl D_ratio.g D_ratio.kp D_ratio.b (fun σ => passAt tk σ) (pa_cons (pv 0) (pa_cons pe_int pa_nil))))))
          (fun a oe cls d pn hz hf => pss_one (ps_ret pe_bl)))
        (pss_one (ps_ret pe_bl))), ?_⟩
    refine ⟨_, rfl, t, 0, rfl, (by decide), fun _ => ?_, fun h => (h rfl).elim⟩
    exact ⟨true, X.te, fun _ a ha => k, fun q => Bool.noConfusion q⟩
end
end My
set_option Elab.async false
set_option maxRecDepth 100000
set_option maxHeartbeats 4000000
namespace My
open PySem L2
def dys (ds : List Nat) : List V := (nInt ds).map V.int
def sp_days_in : Sp := fun vs H Q _ => ∃ n : Nat, vs = [.int n] ∧ n < 2 ^ 16 ∧ ∀ (a : Addr) (H' : Hp), H a = none → Same H H' → H' a = some (.tup (dys (daysOf n))) → Q (.ref a) H'
def sp_set_of_l : Sp := fun vs H Q _ => ∃ (a : Addr) (ds : List Nat), vs = [.ref a] ∧ H a = some (.lst (dys ds)) ∧ (∀ d ∈ ds, d < 1000) ∧ Q (.int (setOf ds : Nat)) H
def sp_set_of_t : Sp := fun vs H Q _ => ∃ (a : Addr) (ds : List Nat), vs = [.ref a] ∧ H a = some (.tup (dys ds)) ∧ (∀ d ∈ ds, d < 1000) ∧ Q (.int (setOf ds : Nat)) H
def sp_size : Sp := fun vs H Q _ => ∃ n : Nat, vs = [.int n] ∧ n < 2 ^ 16 ∧ ∀ H' : Hp, Same H H' → Q (.int ((daysOf n).length : Nat)) H'
def sp_within : Sp := fun vs H Q _ => ∃ n m : Nat, vs = [.int n, .int m] ∧ Q (.bl (decide (n &&& m = n))) H
theorem dys_len (ds : List Nat) : (dys ds).length = ds.length := by unfold dys nInt; rw [List.length_map, List.length_map]
theorem dys_app (ds es : List Nat) : dys (ds ++ es) = dys ds ++ dys es := by unfold dys nInt; rw [List.map_append, List.map_append]
theorem dys_at {ds : List Nat} {i : Nat} {x : V} (h : (dys ds)[i]? = some x) : ∃ d : Nat, ds[i]? = some d ∧ x = .int (d : Int) := by
  unfold dys nInt at h
  rw [List.getElem?_map, List.getElem?_map] at h
  cases e : ds[i]? with
  | none => rw [e] at h; cases h
  | some d => rw [e] at h; exact ⟨d, rfl, (Option.some.inj h).symm⟩
theorem filter_step (f : Nat → Bool) (i : Nat) : (List.range (i + 1)).filter f = (List.range i).filter f ++ (if f i = true then [i] else []) := by
  rw [List.range_succ, List.filter_append]
  congr 1
  by_cases h : f i = true <;> simp [h]
theorem bit_test (n d : Nat) : (Builtin.bitAnd ((n : Int) / 2 ^ (d : Int).toNat) 1 != 0) = n.testBit d := by
  have e1 : ((n : Int) / 2 ^ (d : Int).toNat) = ((n / 2 ^ d : Nat) : Int) := by
    rw [Int.toNat_natCast, ← PySem.W.kbt_cast]
    rfl
  rw [e1, PyProof.Rows.bitAnd_m1, Nat.testBit_eq_decide_div_mod_eq]
  generalize n / 2 ^ d = k
  have h : ((k : Int) % 2 = 0 ∧ k % 2 = 0) ∨ ((k : Int) % 2 = 1 ∧ k % 2 = 1) := by omega
  rcases h with ⟨h1, h2⟩ | ⟨h1, h2⟩ <;> simp [h1, h2]
theorem fold_take {ds : List Nat} {i d : Nat} (h : ds[i]? = some d) : setOf (ds.take (i + 1)) = setOf (ds.take i) ||| 2 ^ d := by
  have e : ds.take (i + 1) = ds.take i ++ [d] := by
    rw [List.take_add_one, h]; rfl
  unfold setOf
  rw [e, List.foldl_append]
  rfl
theorem or_pow (s d : Nat) : Builtin.bitOr (s : Int) (1 * 2 ^ (d : Int).toNat) = ((s ||| 2 ^ d : Nat) : Int) := by
  rw [Int.toNat_natCast, Int.one_mul, ← PySem.W.kbt_cast, bitOr_nn (Int.natCast_nonneg _) (Int.natCast_nonneg _), Int.toNat_natCast, Int.toNat_natCast]
section
variable {P : Program} {w : World} {K : PySem.W.Frag} {mg : Str → Option Value} {base : Heap}
structure BtD (mg : Str → Option Value) : Prop where
  tuple : mg "tuple" = none
  range : mg "range" = none
  len : mg "len" = none
abbrev s_days_in : Stmt := top 12
abbrev N_days_in : List Str := ["day_set", "day"]
theorem sc_days_in : FnScope N_days_in ["day_set"] (defScope s_days_in) := ⟨rfl, rfl, rfl, by decide +kernel, rfl, by decide +kernel, by decide +kernel⟩
theorem ok_days_in {f : Addr} {fd : FuncData} (F : Fun K "days_in" "days_in" s_days_in f fd) (T : BtD mg) : FnOk P w K mg base CX0 2 f fd ["day_set"] sp_days_in := by
  refine F.ok sc_days_in (fun vs H Q E h => ?_) (fun cdv A outer s H vs Q E hr h => ?_)
  · obtain ⟨n, rfl, _⟩ := h
    rfl
  · obtain ⟨n, rfl, hn, k⟩ := h
    refine ⟨_, (pss_one (ps_ret (pe_callTy call_tuple_of (by rfl) T.tuple (by decide +kernel) (pa_cons (pe_lc (own := [("day", 1)]) (g := gName 1) rfl sc_days_in.nd (pi_range1 (by rfl) T.range (pa_cons (pe_bits (pv 0)) pa_nil)) (blkOk_by (N := N_days_in) (sc := defScope s_days_in) (by decide +kernel)) (fun _ _ _ _ _ => (pg_name (i := 1) sc_days_in.nd rfl (Or.inl rfl))) (fun _ _ _ _ _ => (pts_one (pt_truthK (K := K) rfl (pe_op op_and (pe_op op_shr (pv 0) (pv 1)) pe_int)))) (fun _ _ _ _ _ => (pv 1))) pa_nil)))), ?_⟩
    have hL : Builtin.Int.intBits (n : Int) ≤ 16 ∧ n < 2 ^ Builtin.Int.intBits (n : Int) := by
      unfold Builtin.Int.intBits
      by_cases h0 : n = 0
      · subst h0
        decide
      · rw [if_neg (by simpa using h0), Int.natAbs_natCast]
        refine ⟨?_, Nat.lt_log2_self⟩
        have := (Nat.log2_lt h0).mpr hn
        omega
    refine ⟨_, rfl, _, rfl, _, rfl, by omega, by omega, fun D hD => ?_⟩
    rw [Int.toNat_natCast]
    generalize Builtin.Int.intBits (n : Int) = L at hL
    refine lc_range (lo := 0) (n := L) (fun i H2 => Same H H2 ∧ H2 D = some (.lst (dys ((List.range i).filter fun d => n.testBit d)))) ⟨same_new hD, upd_same⟩ ?_ ?_
    · rintro i H2 hi ⟨s2, h2⟩
      refine ⟨rfl, _, rfl, _, rfl, _, _, rfl, rfl, (by show (0 : Int) ≤ 0 + (i : Int); omega), _, _, rfl, rfl, ?_⟩
      refine ⟨n.testBit i, ?_, ?_⟩
      · rw [← bit_test n i, Int.zero_add]
        rfl
      · refine ite2 (fun z => ?_) (fun z => ?_)
        · refine ⟨_, rfl, _, h2, ?_, ?_, ?_⟩
          · rw [dys_len]
            refine Nat.lt_of_le_of_lt (List.length_filter_le _ _) ?_
            rw [List.length_range]
            exact Nat.lt_of_lt_of_le hi (Nat.le_trans hL.1 (by decide))
          · intro a o e
            rw [upd_ne (ne_of_none e hD)]
            exact s2 a o e
          · rw [upd_same, filter_step, if_pos z, dys_app, Int.zero_add]
            rfl
        · refine ⟨s2, ?_⟩
          rw [h2, filter_step, if_neg z, List.append_nil]
    · rintro H2 ⟨s2, h2⟩
      refine ⟨D, _, rfl, .inl ⟨SqL.of h2, fun l hl => ?_⟩⟩
      refine k l _ (s2.free hl) (s2.trans (same_new hl)) ?_
      rw [upd_same, daysOf_more hL.2 hL.1]
abbrev s_set_of : Stmt := top 13
abbrev N_set_of : List Str := ["days", "day_set", "day"]
theorem sc_set_of : FnScope N_set_of ["days"] (defScope s_set_of) := ⟨rfl, rfl, rfl, by decide +kernel, rfl, by decide +kernel, by decide +kernel⟩
theorem ok_set_of_l {f : Addr} {fd : FuncData} (F : Fun K "set_of" "set_of" s_set_of f fd) : FnOk P w K mg base CX0 2 f fd ["days"] sp_set_of_l := by
  refine F.ok sc_set_of (fun vs H Q E h => ?_) (fun cdv A outer s H vs Q E hr h => ?_)
  · obtain ⟨a, ds, rfl, _⟩ := h
    rfl
  · obtain ⟨a, ds, rfl, ha, hd, k⟩ := h
    refine ⟨_, (pss_cons (ps_set (i := 1) sc_set_of.nd rfl (Or.inl rfl) pe_int)
        (pss_cons (ps_for PassesOwn.never rfl (pi_list (pv 0)) (pg_name (i := 2) sc_set_of.nd rfl (Or.inl rfl)) (pss_one (ps_set (i := 1) sc_set_of.nd rfl (Or.inl rfl) (pe_op op_or (pv 1) (pe_op op_shl pe_int (pv 2))))))
        (pss_one (ps_ret (pv 1))))), ?_⟩
    refine ⟨_, rfl, a, rfl, ⟨_, SqL.of ha⟩, for_list (K := K) (a := a) (xs := dys ds) (fun i σ H' => H' = H ∧ ∃ u, σ = [some (.ref a), some (.int (setOf (ds.take i) : Nat)), u]) ⟨rfl, none, by rfl⟩ (fun i σ H' _ h => by rw [h.1]; exact SqL.of ha) ?_ ?_⟩
    · rintro i x σ H' hi ⟨rfl, u, rfl⟩
      obtain ⟨d, e1, rfl⟩ := dys_at hi
      have hd1 := hd d (List.mem_of_getElem? e1)
      refine ⟨_, rfl, _, rfl, _, _, rfl, rfl, ⟨by omega, by omega, by decide⟩, _, _, rfl, rfl, rfl, some (.int (d : Int)), ?_⟩
      rw [fold_take e1, ← or_pow]
      rfl
    · rintro σ H' ⟨rfl, u, rfl⟩
      refine ⟨_, rfl, ?_⟩
      rw [dys_len, List.take_length]
      exact k
theorem ok_set_of_t {f : Addr} {fd : FuncData} (F : Fun K "set_of" "set_of" s_set_of f fd) : FnOk P w K mg base CX0 2 f fd ["days"] sp_set_of_t := by
  refine F.ok sc_set_of (fun vs H Q E h => ?_) (fun cdv A outer s H vs Q E hr h => ?_)
  · obtain ⟨a, ds, rfl, _⟩ := h
    rfl
  · obtain ⟨a, ds, rfl, ha, hd, k⟩ := h
    refine ⟨_, (pss_cons (ps_set (i := 1) sc_set_of.nd rfl (Or.inl rfl) pe_int)
        (pss_cons (ps_for PassesOwn.never rfl (pi_tup (pv 0)) (pg_name (i := 2) sc_set_of.nd rfl (Or.inl rfl)) (pss_one (ps_set (i := 1) sc_set_of.nd rfl (Or.inl rfl) (pe_op op_or (pv 1) (pe_op op_shl pe_int (pv 2))))))
        (pss_one (ps_ret (pv 1))))), ?_⟩
    refine ⟨_, rfl, a, rfl, ⟨_, SqT.of ha⟩, for_tup (K := K) (a := a) (xs := dys ds) (fun i σ H' => H' = H ∧ ∃ u, σ = [some (.ref a), some (.int (setOf (ds.take i) : Nat)), u]) ⟨rfl, none, by rfl⟩ (fun i σ H' _ h => by rw [h.1]; exact SqT.of ha) ?_ ?_⟩
    · rintro i x σ H' hi ⟨rfl, u, rfl⟩
      obtain ⟨d, e1, rfl⟩ := dys_at hi
      have hd1 := hd d (List.mem_of_getElem? e1)
      refine ⟨_, rfl, _, rfl, _, _, rfl, rfl, ⟨by omega, by omega, by decide⟩, _, _, rfl, rfl, rfl, some (.int (d : Int)), ?_⟩
      rw [fold_take e1, ← or_pow]
      rfl
    · rintro σ H' ⟨rfl, u, rfl⟩
      refine ⟨_, rfl, ?_⟩
      rw [dys_len, List.take_length]
      exact k
abbrev s_size : Stmt := top 14
theorem sc_size : FnScope ["day_set"] ["day_set"] (defScope s_size) := ⟨rfl, rfl, rfl, by decide +kernel, rfl, by decide +kernel, by decide +kernel⟩
theorem ok_size {f fD : Addr} {fd fdD : FuncData} (F : Fun K "size" "size" s_size f fd) (T : BtD mg) (D_days_in : Df K mg "days_in" ["day_set"] fD fdD) (G_days_in : FnOk P w K mg base CX0 2 fD fdD ["day_set"] sp_days_in) : FnOk P w K mg base CX0 3 f fd ["day_set"] sp_size := by
  refine F.ok sc_size (fun vs H Q E h => ?_) (fun cdv A outer s H vs Q E hr h => ?_)
  · obtain ⟨n, rfl, _⟩ := h
    rfl
  · obtain ⟨n, rfl, hn, k⟩ := h
    refine ⟨_, (pss_one (ps_ret (pe_callB call_len_seq (by rfl) T.len (by decide +kernel) (pa_cons (pe_call G_days_in (hr.mono (by decide)) (by rfl) D_days_in.g D_days_in.kp D_days_in.b .nil pass0 (pa_cons (pv 0) pa_nil)) pa_nil)))), ?_⟩
    refine ⟨_, rfl, n, rfl, hn, fun a H' ha s2 h2 => ⟨a, _, rfl, .inr (SqT.of h2), ?_⟩⟩
    rw [dys_len]
    exact k _ s2
abbrev s_within : Stmt := top 15
theorem sc_within : FnScope ["one", "other"] ["one", "other"] (defScope s_within) := ⟨rfl, rfl, rfl, by decide +kernel, rfl, by decide +kernel, by decide +kernel⟩
theorem within_int (n m : Nat) : decide (V.int (Builtin.bitAnd (n : Int) (Builtin.bitNot (m : Int))) = V.int 0) = decide (n &&& m = n) := by
  rw [PyProof.Rows.bitAnd_not, PyProof.Rows.bitAnd_pp (Int.natCast_nonneg _) (Int.natCast_nonneg _), Int.toNat_natCast, Int.toNat_natCast]
  refine decide_eq_decide.mpr ⟨fun h => ?_, fun h => ?_⟩
  · injection h with h
    omega
  · rw [h, Int.sub_self]
theorem ok_within {f : Addr} {fd : FuncData} (F : Fun K "within" "within" s_within f fd) : FnOk P w K mg base CX0 2 f fd ["one", "other"] sp_within := by
  refine F.ok sc_within (fun vs H Q E h => ?_) (fun cdv A outer s H vs Q E hr h => ?_)
  · obtain ⟨n, m, rfl, _⟩ := h
    rfl
  · obtain ⟨n, m, rfl, k⟩ := h
    refine ⟨_, (pss_one (ps_ret (pe_cmpR op_eq (pe_op op_and (pv 0) (pe_un un_inv (pv 1))) pe_int (nomark _)))), ?_⟩
    refine ⟨_, rfl, _, rfl, _, rfl, _, _, rfl, rfl, rfl, ?_⟩
    rw [← within_int] at k
    exact k
end
end My
set_option Elab.async false
set_option maxRecDepth 100000
set_option maxHeartbeats 4000000
namespace My
open PySem L2
/-- a check of the law: True, the bag drawn from -/
def sp_check : Sp := fun vs H Q _ => ∃ b : Addr, vs = [.ref b] ∧ Bag H b ∧ ∀ H' : Hp, Bag H' b → But b H H' → Q (.bl true) H'
theorem seq_of {t U : TS} {D : Ends} {σ : St} {H : Hp} (R : St → Hp → Prop) (k : ∀ nx : St → Hp → Prop, (∀ σ' H', R σ' H' → nx σ' H') → t { D with nx := nx } σ H) (h : ∀ σ' H', R σ' H' → U D σ' H') : tSeq t U D σ H := k _ h
theorem cmp3_sign (x y : Int) : cmp3 x y = Int.sign (x - y) := by
  unfold cmp3
  rcases Int.lt_trichotomy x y with h | h | h
  · rw [if_pos h, Int.sign_eq_neg_one_of_neg (by omega)]
  · subst h; simp
  · rw [if_neg (by omega), if_pos h, Int.sign_eq_one_of_pos (by omega)]
theorem due_sign (g : Int) : (if g = 0 then (0 : Int) else if 0 < g then 1 else -1) = Int.sign g := by
  rcases Int.lt_trichotomy g 0 with h | h | h
  · rw [if_neg (by omega), if_neg (by omega), Int.sign_eq_neg_one_of_neg h]
  · subst h; simp
  · rw [if_neg (by omega), if_pos h, Int.sign_eq_one_of_pos h]
theorem ratio_order {t b u d p q r s : Int} (hb : b ≠ 0) (hd : d ≠ 0) (h1 : Rat t b p q) (h2 : Rat u d r s) : Int.sign (p * s - r * q) = Int.sign ((t * d - u * b) * (if 0 < b * d then 1 else -1)) := by
  obtain ⟨q1, e1, _⟩ := h1
  obtain ⟨s1, e2, _⟩ := h2
  have key : (p * s - r * q) * (b * d) = (q * s) * (t * d - u * b) := by
    have a1 : (p * s) * (b * d) = (q * s) * (t * d) := by
      calc (p * s) * (b * d) = (p * b) * (s * d) := by ac_rfl
        _ = (q * t) * (s * d) := by rw [e1]
        _ = (q * s) * (t * d) := by ac_rfl
    have a2 : (r * q) * (b * d) = (q * s) * (u * b) := by
      calc (r * q) * (b * d) = (r * d) * (q * b) := by ac_rfl
        _ = (s * u) * (q * b) := by rw [e2]
        _ = (q * s) * (u * b) := by ac_rfl
    rw [Int.sub_mul, Int.mul_sub, a1, a2]
  have hN : 0 < q * s := Int.mul_pos (by omega) (by omega)
  have hM : b * d ≠ 0 := Int.mul_ne_zero hb hd
  have e := congrArg Int.sign key
  rw [Int.sign_mul (p * s - r * q), Int.sign_mul (q * s), Int.sign_eq_one_of_pos hN, Int.one_mul] at e
  rw [Int.sign_mul, ← e]
  by_cases z : 0 < b * d
  · rw [if_pos z, Int.sign_eq_one_of_pos z]
    show _ = _ * 1 * 1
    omega
  · rw [if_neg z, Int.sign_eq_neg_one_of_neg (show b * d < 0 by omega)]
    show _ = _ * -1 * -1
    omega
theorem rat_sum {t b u d p q r s x y : Int} (h1 : Rat t b p q) (h2 : Rat u d r s) (h : Rat (p * s + r * q) (q * s) x y) : Rat (t * d + u * b) (b * d) x y := by
  obtain ⟨q1, e1, _⟩ := h1
  obtain ⟨s1, e2, _⟩ := h2
  obtain ⟨y1, e3, e4⟩ := h
  refine ⟨y1, ?_, e4⟩
  have hN : q * s ≠ 0 := Int.mul_ne_zero (by omega) (by omega)
  refine Int.eq_of_mul_eq_mul_right hN ?_
  have a1 : (p * s) * (b * d) = (q * s) * (t * d) := by
    calc (p * s) * (b * d) = (p * b) * (s * d) := by ac_rfl
      _ = (q * t) * (s * d) := by rw [e1]
      _ = (q * s) * (t * d) := by ac_rfl
  have a2 : (r * q) * (b * d) = (q * s) * (u * b) := by
    calc (r * q) * (b * d) = (r * d) * (q * b) := by ac_rfl
      _ = (s * u) * (q * b) := by rw [e2]
      _ = (q * s) * (u * b) := by ac_rfl
  calc x * (b * d) * (q * s) = (x * (q * s)) * (b * d) := by ac_rfl
    _ = (y * (p * s + r * q)) * (b * d) := by rw [e3]
    _ = y * ((p * s) * (b * d) + (r * q) * (b * d)) := by rw [Int.mul_assoc, Int.add_mul]
    _ = y * ((q * s) * (t * d) + (q * s) * (u * b)) := by rw [a1, a2]
    _ = y * (t * d + u * b) * (q * s) := by rw [← Int.mul_add, Int.mul_comm (q * s), ← Int.mul_assoc]
theorem rat_product {t b u d p q r s x y : Int} (h1 : Rat t b p q) (h2 : Rat u d r s) (h : Rat (p * r) (q * s) x y) : Rat (t * u) (b * d) x y := by
  obtain ⟨q1, e1, _⟩ := h1
  obtain ⟨s1, e2, _⟩ := h2
  obtain ⟨y1, e3, e4⟩ := h
  refine ⟨y1, ?_, e4⟩
  have hN : q * s ≠ 0 := Int.mul_ne_zero (by omega) (by omega)
  refine Int.eq_of_mul_eq_mul_right hN ?_
  have a1 : (p * r) * (b * d) = (q * s) * (t * u) := by
    calc (p * r) * (b * d) = (p * b) * (r * d) := by ac_rfl
      _ = (q * t) * (s * u) := by rw [e1, e2]
      _ = (q * s) * (t * u) := by ac_rfl
  calc x * (b * d) * (q * s) = (x * (q * s)) * (b * d) := by ac_rfl
    _ = (y * (p * r)) * (b * d) := by rw [e3]
    _ = y * ((p * r) * (b * d)) := by rw [Int.mul_assoc]
    _ = y * (t * u) * (q * s) := by rw [a1, Int.mul_comm (q * s), ← Int.mul_assoc]
theorem rat_zero {b x y : Int} (hb : b ≠ 0) (h : Rat 0 b x y) : x = 0 ∧ y = 1 := by
  obtain ⟨y1, e, g⟩ := h
  rw [Int.mul_zero] at e
  have hx : x = 0 := by
    rcases Int.mul_eq_zero.mp e with h | h
    · exact h
    · exact (hb h).elim
  subst hx
  simp at g
  exact ⟨rfl, by omega⟩
def Dr2 (z : Int) : Prop := z.natAbs < 2 ^ 212
theorem Dr2.sm {z : Int} (h : Dr2 z) : Sm z := Nat.lt_trans h (by decide +kernel)
theorem Dr2.mul {x y : Int} (hx : Dr2 x) (hy : Dr2 y) : (x * y).natAbs < 2 ^ 424 := wide_lt hx hy
theorem Dr2.cm {x y : Int} (hx : Dr2 x) (hy : Dr2 y) : CMulX x y := mulx_ok hx hy (by decide)
theorem b900 {z : Int} {n : Nat} (h : z.natAbs < 2 ^ n) (hn : n ≤ 900) : z.natAbs < 2 ^ 900 := Nat.lt_of_lt_of_le h (Nat.pow_le_pow_right (by decide) hn)
theorem add_bits {x y : Int} {n : Nat} (hx : x.natAbs < 2 ^ n) (hy : y.natAbs < 2 ^ n) : (x + y).natAbs < 2 ^ (n + 1) := by
  rw [Nat.pow_succ]; omega
theorem sub_bits {x y : Int} {n : Nat} (hx : x.natAbs < 2 ^ n) (hy : y.natAbs < 2 ^ n) : (x - y).natAbs < 2 ^ (n + 1) := by
  rw [Nat.pow_succ]; omega
section
variable {P : Program} {w : World} {K : PySem.W.Frag} {mg : Str → Option Value} {base : Heap}
abbrev s_l_ratios : Stmt := top 24
abbrev N_l_ratios : List Str := ["_law_bag_here", "_law_top", "_law_far", "_law_bottom", "_law_below", "_law_one", "_law_other", "_law_gap", "_law_due"]
theorem sc_l_ratios : FnScope N_l_ratios ["_law_bag_here"] (defScope s_l_ratios) := ⟨rfl, rfl, rfl, by decide +kernel, rfl, by decide +kernel, by decide +kernel⟩
theorem ok_l_ratios {C f fN fT fR fI fF fS fP fC : Addr} {fd fdN fdT fdR fdI fdF fdS fdP fdC : FuncData} (F : Fun K "_law_ratios" "_law_ratios" s_l_ratios f fd)
    (D_l_number : Df K mg "_law_number" ["_law_bag_here"] fN fdN) (G_l_number : FnOk P w K mg base CX0 4 fN fdN ["_law_bag_here"] sp_l_number)
    (D_l_take : Df K mg "_law_take" ["_law_bag_here", "_law_many"] fT fdT) (G_l_take : FnOk P w K mg base CX0 2 fT fdT ["_law_bag_here", "_law_many"] sp_l_take)
    (D_ratio : Df K mg "ratio" ["top", "bottom"] fR fdR) (G_ratio : FnOk P w K mg base (L2.CX P w) 4 fR fdR ["top", "bottom"] (sp_ratio C))
    (D_l_is_ratio : Df K mg "_law_is_ratio" ["_law_told", "_law_top", "_law_bottom"] fI fdI) (G_l_is_ratio : FnOk P w K mg base CX0 3 fI fdI ["_law_told", "_law_top", "_law_bottom"] sp_is_ratio)
    (D_l_refused : Df K mg "_law_refused" ["_law_top"] fF fdF) (G_l_refused : FnOk P w K mg base CX0 5 fF fdF ["_law_top"] sp_refused)
    (D_ratio_sum : Df K mg "ratio_sum" ["one", "other"] fS fdS) (G_ratio_sum : FnOk P w K mg base CX0 5 fS fdS ["one", "other"] (sp_two (fun p q r s => p * s + r * q) fun _ q _ s => q * s))
    (D_ratio_product : Df K mg "ratio_product" ["one", "other"] fP fdP) (G_ratio_product : FnOk P w K mg base CX0 5 fP fdP ["one", "other"] (sp_two (fun p _ r _ => p * r) fun _ q _ s => q * s))
    (D_compare_ratios : Df K mg "compare_ratios" ["one", "other"] fC fdC) (G_compare_ratios : FnOk P w K mg base CX0 2 fC fdC ["one", "other"] sp_compare) :
    FnOk P w K mg base CX0 7 f fd ["_law_bag_here"] sp_check := by
  refine F.ok sc_l_ratios (fun vs H Q E h => ?_) (fun cdv A outer s H vs Q E hr h => ?_)
  · obtain ⟨b, rfl, _⟩ := h
    rfl
  · obtain ⟨b, rfl, hB, k⟩ := h
    refine ⟨_, (pss_cons (ps_par (i := 1) (j := 2) (by rfl) sc_l_ratios.nd rfl rfl (by decide) rfl rfl (pa_cons (pe_call G_l_number (hr.mono (by decide)) (by rfl) D_l_number.g D_l_number.kp D_l_number.b .nil pass0 (pa_cons (pv 0) pa_nil)) (pa_cons (pe_call G_l_number (hr.mono (by decide)) (by rfl) D_l_number.g D_l_number.kp D_l_number.b .nil pass0 (pa_cons (pv 0) pa_nil)) pa_nil)) (by rfl))
        (pss_cons (ps_set (i := 3) sc_l_ratios.nd rfl (Or.inl rfl) (pe_call G_l_number (hr.mono (by decide)) (by rfl) D_l_number.g D_l_number.kp D_l_number.b .nil pass0 (pa_cons (pv 0) pa_nil)))
        (pss_cons (ps_set (i := 4) sc_l_ratios.nd rfl (Or.inl rfl) (pe_call G_l_number (hr.mono (by decide)) (by rfl) D_l_number.g D_l_number.kp D_l_number.b .nil pass0 (pa_cons (pv 0) pa_nil)))
        (pss_cons (ps_set (i := 3) sc_l_ratios.nd rfl (Or.inl rfl) (pe_ifExp (pt_cmpR op_ne (pv 3) pe_int (nomark _)) (pv 3) pe_int))
        (pss_cons (ps_set (i := 4) sc_l_ratios.nd rfl (Or.inl rfl) (pe_ifExp (pt_cmpR op_ne (pv 4) pe_int (nomark _)) (pv 4) (pe_un un_neg pe_int)))
        (pss_cons (ps_if (pt_cmpR op_eq (pe_call G_l_take (hr.mono (by decide)) (by rfl) D_l_take.g D_l_take.kp D_l_take.b .nil pass0 (pa_cons (pv 0) (pa_cons pe_int pa_nil))) pe_int (nomark _)) (pss_one (ps_par (i := 2) (j := 4) (by rfl) sc_l_ratios.nd rfl rfl (by decide) rfl rfl (pa_cons (pe_op op_mul (pv 1) pe_int) (pa_cons (pe_op op_mul (pv 3) pe_int) pa_nil)) (by rfl))) pss_nil)
        (pss_cons (ps_par (i := 5) (j := 6) (by rfl) sc_l_ratios.nd rfl rfl (by decide) rfl rfl (pa_cons (pe_call G_ratio (hr.mono (by decide)) (by rfl) D_ratio.g D_ratio.kp D_ratio.b .nil passL (pa_cons (pv 1) (pa_cons (pv 3) pa_nil))) (pa_cons (pe_call G_ratio (hr.mono (by decide)) (by rfl) D_ratio.g D_ratio.kp D_ratio.b .nil passL (pa_cons (pv 2) (pa_cons (pv 4) pa_nil))) pa_nil)) (by rfl))
        (pss_cons (ps_if (PW.pt (pw_or (pt_not (pt_val (pe_call G_l_is_ratio (hr.mono (by decide)) (by rfl) D_l_is_ratio.g D_l_is_ratio.kp D_l_is_ratio.b .nil pass0 (pa_cons (pv 5) (pa_cons (pv 1) (pa_cons (pv 3) pa_nil)))))) (pw_or1 (pt_not (pt_val (pe_call G_l_is_ratio (hr.mono (by decide)) (by rfl) D_l_is_ratio.g D_l_is_ratio.kp D_l_is_ratio.b .nil pass0 (pa_cons (pv 6) (pa_cons (pv 2) (pa_cons (pv 4) pa_nil))))))))) (pss_one (ps_ret pe_bl)) pss_nil)
        (pss_cons (ps_if (PW.pt (pw_or (pt_not (pt_val (pe_call G_l_refused (hr.mono (by decide)) (by rfl) D_l_refused.g D_l_refused.kp D_l_refused.b .nil pass0 (pa_cons (pv 1) pa_nil)))) (pw_or1 (pt_cmpR (op_neD hr.units) (pe_call G_ratio (hr.mono (by decide)) (by rfl) D_ratio.g D_ratio.kp D_ratio.b .nil passL (pa_cons pe_int (pa_cons (pv 3) pa_nil))) (pe_tup (pa_cons pe_int (pa_cons pe_int pa_nil))) (nomark _))))) (pss_one (ps_ret pe_bl)) pss_nil)
        (pss_cons (ps_if (pt_not (pt_val (pe_call G_l_is_ratio (hr.mono (by decide)) (by rfl) D_l_is_ratio.g D_l_is_ratio.kp D_l_is_ratio.b .nil pass0 (pa_cons (pe_call G_ratio_sum (hr.mono (by decide)) (by rfl) D_ratio_sum.g D_ratio_sum.kp D_ratio_sum.b .nil pass0 (pa_cons (pv 5) (pa_cons (pv 6) pa_nil))) (pa_cons (pe_op op_add (pe_op op_mulX (pv 1) (pv 4)) (pe_op op_mulX (pv 2) (pv 3))) (pa_cons (pe_op op_mulX (pv 3) (pv 4)) pa_nil)))))) (pss_one (ps_ret pe_bl)) pss_nil)
        (pss_cons (ps_if (pt_not (pt_val (pe_call G_l_is_ratio (hr.mono (by decide)) (by rfl) D_l_is_ratio.g D_l_is_ratio.kp D_l_is_ratio.b .nil pass0 (pa_cons (pe_call G_ratio_product (hr.mono (by decide)) (by rfl) D_ratio_product.g D_ratio_product.kp D_ratio_product.b .nil pass0 (pa_cons (pv 5) (pa_cons (pv 6) pa_nil))) (pa_cons (pe_op op_mulX (pv 1) (pv 2)) (pa_cons (pe_op op_mulX (pv 3) (pv 4)) pa_nil)))))) (pss_one (ps_ret pe_bl)) pss_nil)
        (pss_cons (ps_set (i := 7) sc_l_ratios.nd rfl (Or.inl rfl) (pe_op op_mulX (pe_op op_sub (pe_op op_mulX (pv 1) (pv 4)) (pe_op op_mulX (pv 2) (pv 3))) (pe_ifExp (pt_cmpR op_gt (pe_op op_mulX (pv 3) (pv 4)) pe_int (nomark _)) pe_int (pe_un un_neg pe_int))))
        (pss_cons (ps_set (i := 8) sc_l_ratios.nd rfl (Or.inl rfl) (pe_ifExp (pt_cmpR op_eq (pv 7) pe_int (nomark _)) pe_int (pe_ifExp (pt_cmpR op_gt (pv 7) pe_int (nomark _)) pe_int (pe_un un_neg pe_int))))
        (pss_one (ps_ret (pe_and (pe_cmpR op_eq (pe_call G_compare_ratios (hr.mono (by decide)) (by rfl) D_compare_ratios.g D_compare_ratios.kp D_compare_ratios.b .nil pass0 (pa_cons (pv 5) (pa_cons (pv 6) pa_nil))) (pv 8) (nomark _)) (pe_and (pe_cmpR op_eq (pe_call G_compare_ratios (hr.mono (by decide)) (by rfl) D_compare_ratios.g D_compare_ratios.kp D_compare_ratios.b .nil pass0 (pa_cons (pv 6) (pa_cons (pv 5) pa_nil))) (pe_un un_neg (pv 8)) (nomark _)) (pe_one (pe_cmpR op_eq (pe_call G_compare_ratios (hr.mono (by decide)) (by rfl) D_compare_ratios.g D_compare_ratios.kp D_compare_ratios.b .nil pass0 (pa_cons (pv 5) (pa_cons (pv 5) pa_nil))) pe_int (nomark _)))))))))))))))))))), ?_⟩
    refine ⟨_, rfl, b, rfl, hB, fun t H1 d1 hB1 k1 => ⟨_, rfl, b, rfl, hB1, fun u H2 d2 hB2 k2 => ⟨_, _, rfl, ?_⟩⟩⟩
    refine ⟨_, rfl, b, rfl, hB2, fun bt H3 d3 hB3 k3 => ?_⟩
    refine ⟨_, rfl, b, rfl, hB3, fun be H4 d4 hB4 k4 => ?_⟩
    have kk4 : But b H H4 := ((k1.trans k2).trans k3).trans k4
    clear k1 k2 k3 k4 hB hB1 hB2 hB3
    dsimp only [gName]
    refine asg_of (R := fun v H' => ∃ z : Int, v = .int z ∧ z ≠ 0 ∧ Drawn z ∧ H4 = H') (fun Q' q' => ?_) fun v H' ⟨bo, e, nb, db, eH⟩ => ?_
    · refine ⟨_, rfl, rfl, _, rfl, ?_⟩
      by_cases z : bt = 0
      · subst z
        exact iteF (q' _ _ ⟨1, rfl, by decide, by unfold Drawn; decide +kernel, rfl⟩)
      · have z' : ¬ V.int bt = V.int 0 := fun e => z (by injection e)
        rw [decide_eq_false z']
        exact iteT ⟨_, rfl, q' _ _ ⟨bt, rfl, z, d3, rfl⟩⟩
    subst e eH
    try dsimp only [tNext, gName]
    refine asg_of (R := fun v H' => ∃ z : Int, v = .int z ∧ z ≠ 0 ∧ Drawn z ∧ H4 = H') (fun Q' q' => ?_) fun v H' ⟨bl, e, nl, dl, eH⟩ => ?_
    · refine ⟨_, rfl, rfl, _, rfl, ?_⟩
      by_cases z : be = 0
      · subst z
        exact iteF ⟨_, rfl, q' _ _ ⟨-1, rfl, by decide, by unfold Drawn; decide +kernel, rfl⟩⟩
      · have z' : ¬ V.int be = V.int 0 := fun e => z (by injection e)
        rw [decide_eq_false z']
        exact iteT ⟨_, rfl, q' _ _ ⟨be, rfl, z, d4, rfl⟩⟩
    subst e eH
    try dsimp only [tNext, gName]
    refine seq_of (fun σ' H' => ∃ (u' d' : Int), σ' = [some (.ref b), some (.int t), some (.int u'), some (.int bo), some (.int d'), none, none, none, none] ∧ d' ≠ 0 ∧ Dr2 u' ∧ Dr2 d' ∧ Bag H' b ∧ But b H H') (fun nx hnx => ?_) fun σ' H' ⟨u', d', eσ, nd, du, dd, hB5, kk5⟩ => ?_
    · refine ⟨_, rfl, b, 4, rfl, hB4, by decide, by decide +kernel, fun r H5 r0 r1 hB5 k5 => ⟨rfl, _, rfl, ite2 (fun z => ?_) (fun z => ?_)⟩⟩
      · refine ⟨_, rfl, _, _, rfl, rfl, .inr ⟨by decide, by decide⟩, _, rfl, _, _, rfl, rfl, .inr ⟨by decide, by decide⟩, _, _, rfl, hnx _ _ ⟨t * 3, bo * 3, rfl, by omega, ?_, ?_, hB5, kk4.trans k5⟩⟩
        · exact wide_lt (a := 210) (b := 2) d1 (by decide)
        · exact wide_lt (a := 210) (b := 2) db (by decide)
      · exact hnx _ _ ⟨u, bl, rfl, nl, Nat.lt_trans d2 (by decide +kernel), Nat.lt_trans dl (by decide +kernel), hB5, kk4.trans k5⟩
    subst eσ
    have dt : Dr2 t := Nat.lt_trans d1 (by decide +kernel)
    have dbo : Dr2 bo := Nat.lt_trans db (by decide +kernel)
    clear d1 d2 d3 d4 db dl hB4 kk4 nl
    -- the two ratios
    refine ⟨_, rfl, _, rfl, t, bo, rfl, Nat.lt_trans dbo (by decide +kernel), fun e => (nb e).elim, fun _ p q a R1 lp lq ha => ?_⟩
    refine ⟨_, rfl, _, rfl, u', d', rfl, Nat.lt_trans dd (by decide +kernel), fun e => (nd e).elim, fun _ r s c R2 lr ls hc => ?_⟩
    have dp : Dr2 p := Nat.lt_of_le_of_lt lp dt
    have dq : Dr2 q := Nat.lt_of_le_of_lt lq dbo
    have dr : Dr2 r := Nat.lt_of_le_of_lt lr du
    have ds : Dr2 s := Nat.lt_of_le_of_lt ls dd
    have nac : a ≠ c := ne_of_none upd_same hc
    generalize hH1 : upd (upd H' a (.tup [.int p, .int q])) c (.tup [.int r, .int s]) = G1
    have s1 : Same H' G1 := by rw [← hH1]; exact (same_new ha).trans (same_new hc)
    have ga : G1 a = some (.tup [.int p, .int q]) := by rw [← hH1, upd_ne nac, upd_same]
    have gc : G1 c = some (.tup [.int r, .int s]) := by rw [← hH1, upd_same]
    clear hH1 nac hc ha
    refine ⟨_, _, rfl, ?_⟩
    refine ⟨_, rfl, _, rfl, _, rfl, a, p, q, t, bo, rfl, ga, b900 dp (by decide), b900 dq (by decide), b900 dt (by decide), b900 dbo (by decide), R1, true, rfl, iteF ?_⟩
    refine ⟨_, rfl, _, rfl, _, rfl, c, r, s, u', d', rfl, gc, b900 dr (by decide), b900 ds (by decide), b900 du (by decide), b900 dd (by decide), R2, true, rfl, iteF ?_⟩
    refine ⟨_, rfl, t, rfl, true, rfl, iteF ?_⟩
    refine ⟨_, rfl, 0, bo, rfl, Nat.lt_trans dbo (by decide +kernel), fun e => (nb e).elim, fun _ x0 y0 a0 R0 _ _ ha0 => ⟨(by show 2 ≤ sizeLine; decide), fun a1 ha1 => ?_⟩⟩
    obtain ⟨rfl, rfl⟩ := rat_zero nb R0
    refine ne_intsT (ns := [0, 1]) (ms := [0, 1]) (SqT.of ((same_new ha1) _ _ upd_same)) (SqT.of upd_same) ⟨_, rfl, iteF ?_⟩
    generalize hG2 : upd (upd G1 a0 (.tup [.int 0, .int 1])) a1 (.tup [.int 0, .int 1]) = G2
    have s2 : Same G1 G2 := by
      rw [← hG2]
      exact (same_new ha0).trans (same_new ha1)
    have s2' : Same H' G2 := s1.trans s2
    have ga2 := s2 _ _ ga
    have gc2 := s2 _ _ gc
    clear s1 s2 hG2 ga gc ha0 ha1 R0
    -- the sum
    have nqs : q * s ≠ 0 := Int.mul_ne_zero (by have := R1.1; omega) (by have := R2.1; omega)
    refine ⟨_, rfl, _, rfl, a, c, p, q, r, s, rfl, ga2, gc2, dp.sm, dq.sm, dr.sm, ds.sm, nqs, fun x y e R3 lx ly he => ?_⟩
    have bx : x.natAbs < 2 ^ 900 := b900 (Nat.lt_of_le_of_lt lx (add_bits (dp.mul ds) (dr.mul dq))) (by decide)
    have bY : y.natAbs < 2 ^ 900 := b900 (Nat.lt_of_le_of_lt ly (dq.mul ds)) (by decide)
    refine ⟨_, rfl, _, rfl, _, _, rfl, rfl, dt.cm dd, _, rfl, _, rfl, _, _, rfl, rfl, du.cm dbo, _, _, rfl, rfl, _, rfl, _, rfl, _, _, rfl, rfl, dbo.cm dd, ?_⟩
    refine ⟨e, x, y, _, _, rfl, upd_same, bx, bY, b900 (add_bits (dt.mul dd) (du.mul dbo)) (by decide), b900 (dbo.mul dd) (by decide), rat_sum R1 R2 R3, true, rfl, iteF ?_⟩
    have s3 := s2'.trans (same_new (o := .tup [.int x, .int y]) he)
    have ga3 := same_new (o := .tup [.int x, .int y]) he _ _ ga2
    have gc3 := same_new (o := .tup [.int x, .int y]) he _ _ gc2
    generalize upd G2 e (.tup [.int x, .int y]) = G3 at s3 ga3 gc3
    clear ga2 gc2 s2' he lx ly R3 bx bY
    -- the product
    refine ⟨_, rfl, _, rfl, a, c, p, q, r, s, rfl, ga3, gc3, dp.sm, dq.sm, dr.sm, ds.sm, nqs, fun x y e R3 lx ly he => ?_⟩
    have bx : x.natAbs < 2 ^ 900 := b900 (Nat.lt_of_le_of_lt lx (dp.mul dr)) (by decide)
    have bY : y.natAbs < 2 ^ 900 := b900 (Nat.lt_of_le_of_lt ly (dq.mul ds)) (by decide)
    refine ⟨_, rfl, _, rfl, _, _, rfl, rfl, dt.cm du, _, rfl, _, rfl, _, _, rfl, rfl, dbo.cm dd, ?_⟩
    refine ⟨e, x, y, _, _, rfl, upd_same, bx, bY, b900 (dt.mul du) (by decide), b900 (dbo.mul dd) (by decide), rat_product R1 R2 R3, true, rfl, iteF ?_⟩
    have s4 := s3.trans (same_new (o := .tup [.int x, .int y]) he)
    have ga4 := same_new (o := .tup [.int x, .int y]) he _ _ ga3
    have gc4 := same_new (o := .tup [.int x, .int y]) he _ _ gc3
    generalize upd G3 e (.tup [.int x, .int y]) = G4 at s4 ga4 gc4
    clear ga3 gc3 s3 he lx ly R3 bx bY
    -- the gap and what is due
    try dsimp only [tNext, gName]
    refine asg_of (R := fun v H' => v = .int ((t * d' - u' * bo) * (if 0 < bo * d' then 1 else -1)) ∧ H' = G4) (fun Q' q' => ?_) fun v H' ⟨e, eH⟩ => ?_
    · refine ⟨_, rfl, _, rfl, _, _, rfl, rfl, dt.cm dd, _, rfl, _, rfl, _, _, rfl, rfl, du.cm dbo, _, _, rfl, rfl, ?_⟩
      refine ⟨_, rfl, _, rfl, _, _, rfl, rfl, dbo.cm dd, _, _, rfl, rfl, _, rfl, ite2 (fun z => ?_) (fun z => ?_)⟩
      · have z' : 0 < bo * d' := of_decide_eq_true z
        rw [if_pos z'] at q'
        exact ⟨_, _, rfl, rfl, mulx_ok (sub_bits (dt.mul dd) (du.mul dbo)) (b := 1) (by decide) (by decide), q' _ _ ⟨rfl, rfl⟩⟩
      · have z' : ¬ 0 < bo * d' := fun y => z (decide_eq_true y)
        rw [if_neg z'] at q'
        exact ⟨_, rfl, _, _, rfl, rfl, mulx_ok (sub_bits (dt.mul dd) (du.mul dbo)) (b := 1) (by decide) (by decide), q' _ _ ⟨rfl, rfl⟩⟩
    subst e eH
    have key := ratio_order nb nd R1 R2
    generalize (t * d' - u' * bo) * (if 0 < bo * d' then 1 else -1) = gap at key
    try dsimp only [tNext, gName]
    refine asg_of (R := fun v H2 => v = .int (Int.sign gap) ∧ H2 = H') (fun Q' q' => ?_) fun v H2 ⟨e, eH⟩ => ?_
    · rw [← due_sign] at q'
      refine ⟨_, rfl, rfl, _, rfl, ite2 (fun z => ?_) (fun z => ?_)⟩
      · have z' : V.int gap = V.int 0 := of_decide_eq_true z
        injection z' with z'
        rw [if_pos z'] at q'
        exact q' _ _ ⟨rfl, rfl⟩
      · have z' : ¬ gap = 0 := fun y => z (by rw [y]; decide)
        rw [if_neg z'] at q'
        refine ⟨_, rfl, _, _, rfl, rfl, _, rfl, ite2 (fun z => ?_) (fun z => ?_)⟩
        · rw [if_pos (of_decide_eq_true z)] at q'
          exact q' _ _ ⟨rfl, rfl⟩
        · rw [if_neg (fun y => z (decide_eq_true y))] at q'
          exact ⟨_, rfl, q' _ _ ⟨rfl, rfl⟩⟩
    subst e eH
    have c1 : cmp3 (p * s) (r * q) = Int.sign gap := by rw [cmp3_sign, key]
    have c2 : cmp3 (r * q) (p * s) = -Int.sign gap := by rw [cmp3_sign, ← key, ← Int.sign_neg]; congr 1; omega
    have c3 : cmp3 (p * q) (p * q) = 0 := by rw [cmp3_sign, Int.sub_self]; rfl
    refine ⟨_, rfl, _, rfl, a, c, p, q, r, s, rfl, ga4, gc4, dp.sm, dq.sm, dr.sm, ds.sm, _, rfl, rfl, _, rfl, ite_dy (congrArg V.int c1) ?_⟩
    refine ⟨_, rfl, _, rfl, c, a, r, s, p, q, rfl, gc4, ga4, dr.sm, ds.sm, dp.sm, dq.sm, _, rfl, _, rfl, rfl, _, rfl, ite_dy (congrArg V.int c2) ?_⟩
    refine ⟨_, rfl, _, rfl, a, a, p, q, p, q, rfl, ga4, ga4, dp.sm, dq.sm, dp.sm, dq.sm, rfl, ?_⟩
    rw [c3]
    exact k _ (hB5.same s4) (kk5.trans (But.of s4))
end
end My
set_option Elab.async false
set_option maxRecDepth 100000
set_option maxHeartbeats 4000000
namespace My
open PySem L2
section
variable {P : Program} {w : World} {K : PySem.W.Frag} {mg : Str → Option Value} {base : Heap}
abbrev s_l_wholes : Stmt := top 25
abbrev N_l_wholes : List Str := ["_law_bag_here", "_law_low", "_law_high", "_law_middle", "_law_told", "_law_others", "_law_one"]
theorem sc_l_wholes : FnScope N_l_wholes ["_law_bag_here"] (defScope s_l_wholes) := ⟨rfl, rfl, rfl, by decide +kernel, rfl, by decide +kernel, by decide +kernel⟩
theorem ok_l_wholes {f fN fT fO fW : Addr} {fd fdN fdT fdO fdW : FuncData} (F : Fun K "_law_wholes" "_law_wholes" s_l_wholes f fd)
    (D_l_number : Df K mg "_law_number" ["_law_bag_here"] fN fdN) (G_l_number : FnOk P w K mg base CX0 4 fN fdN ["_law_bag_here"] sp_l_number)
    (D_l_take : Df K mg "_law_take" ["_law_bag_here", "_law_many"] fT fdT) (G_l_take : FnOk P w K mg base CX0 2 fT fdT ["_law_bag_here", "_law_many"] sp_l_take)
    (D_l_of : Df K mg "_law_of" ["_law_bag_here", "_law_some"] fO fdO) (G_l_of : FnOk P w K mg base CX0 3 fO fdO ["_law_bag_here", "_law_some"] sp_l_of)
    (D_is_whole : Df K mg "is_whole" ["thing", "low", "high"] fW fdW) (G_is_whole : FnOk P w K mg base CX0 2 fW fdW ["thing", "low", "high"] (sp_is_whole K)) :
    FnOk P w K mg base CX0 7 f fd ["_law_bag_here"] sp_check := by
  refine F.ok sc_l_wholes (fun vs H Q E h => ?_) (fun cdv A outer s H vs Q E hr h => ?_)
  · obtain ⟨b, rfl, _⟩ := h
    rfl
  · obtain ⟨b, rfl, hB, k⟩ := h
    refine ⟨_, (pss_cons (ps_set (i := 1) sc_l_wholes.nd rfl (Or.inr rfl) (pe_call G_l_number (hr.mono (by decide)) (by rfl) D_l_number.g D_l_number.kp D_l_number.b .nil pass0 (pa_cons (pv 0) pa_nil)))
        (pss_cons (ps_set (i := 2) sc_l_wholes.nd rfl (Or.inr rfl) (pe_op op_add (pv 1) (pe_call G_l_of (hr.mono (by decide)) (by rfl) D_l_of.g D_l_of.kp D_l_of.b .nil pass0 (pa_cons (pv 0) (pa_cons (pe_lst (pa_cons pe_int (pa_cons pe_int (pa_cons pe_int (pa_cons (pe_op op_pow pe_int pe_int) pa_nil))))) pa_nil)))))
        (pss_cons (ps_set (i := 3) sc_l_wholes.nd rfl (Or.inl rfl) (pe_op op_add (pv 1) (pe_call G_l_take (hr.mono (by decide)) (by rfl) D_l_take.g D_l_take.kp D_l_take.b .nil pass0 (pa_cons (pv 0) (pa_cons (pe_op op_add (pe_op op_sub (pv 2) (pv 1)) pe_int) pa_nil)))))
        (pss_cons (ps_setLc (i := 4) (own := [("_law_one", 6)]) (g := gName 6) (tt := tYes) rfl sc_l_wholes.nd rfl rfl (sw_true rfl rfl rfl (by decide +kernel)) (pi_list (pe_lst (pa_cons (pv 1) (pa_cons (pv 2) (pa_cons (pv 3) (pa_cons (pe_op op_sub (pv 1) pe_int) (pa_cons (pe_op op_add (pv 2) pe_int) pa_nil))))))) (blkOk_by (N := N_l_wholes) (sc := defScope s_l_wholes) (by decide +kernel)) (fun _ _ _ _ _ => (pg_name (i := 6) sc_l_wholes.nd rfl (Or.inl rfl))) (fun _ _ _ _ _ => pts_nil) (fun _ _ _ _ _ => (pe_call G_is_whole (hr.mono (by decide)) (by rfl) D_is_whole.g D_is_whole.kp D_is_whole.b .nil pass0 (pa_cons (pv 6) (pa_cons (pv 1) (pa_cons (pv 2) pa_nil))))))
        (pss_cons (ps_if (pt_cmpR (op_neD hr.units) (pv 4) (pe_lst (pa_cons pe_bl (pa_cons pe_bl (pa_cons pe_bl (pa_cons pe_bl (pa_cons pe_bl pa_nil)))))) (nomark _)) (pss_one (ps_ret pe_bl)) pss_nil)
        (pss_cons (ps_set (i := 5) sc_l_wholes.nd rfl (Or.inl rfl) (pe_lst (pa_cons pe_non (pa_cons pe_str (pa_cons (pe_tup (pa_cons pe_int pa_nil)) (pa_cons (pe_lst (pa_cons pe_int pa_nil)) (pa_cons pe_str (pa_cons pe_bl (pa_cons pe_bl pa_nil)))))))))
        (pss_cons (ps_setLc (i := 4) (own := [("_law_one", 6)]) (g := gName 6) (tt := tYes) rfl sc_l_wholes.nd rfl rfl (sw_true rfl rfl rfl (by decide +kernel)) (pi_list (pv 5)) (blkOk_by (N := N_l_wholes) (sc := defScope s_l_wholes) (by decide +kernel)) (fun _ _ _ _ _ => (pg_name (i := 6) sc_l_wholes.nd rfl (Or.inl rfl))) (fun _ _ _ _ _ => pts_nil) (fun _ _ _ _ _ => (pe_call G_is_whole (hr.mono (by decide)) (by rfl) D_is_whole.g D_is_whole.kp D_is_whole.b .nil pass0 (pa_cons (pv 6) (pa_cons (pe_un un_neg pe_int) (pa_cons pe_int pa_nil))))))
        (pss_one (ps_ret (pe_and (pe_cmpR (op_eqD hr.units) (pv 4) (pe_op op_rep (pe_lst (pa_cons pe_bl pa_nil)) pe_int) (nomark _)) (pe_and (pe_cmpR op_isBl (pe_call G_is_whole (hr.mono (by decide)) (by rfl) D_is_whole.g D_is_whole.kp D_is_whole.b .nil pass0 (pa_cons pe_int (pa_cons (pe_un un_neg pe_int) (pa_cons pe_int pa_nil)))) pe_bl (nomark _)) (pe_one (pe_cmpR op_isBl (pe_call G_is_whole (hr.mono (by decide)) (by rfl) D_is_whole.g D_is_whole.kp D_is_whole.b .nil pass0 (pa_cons pe_int (pa_cons pe_int (pa_cons pe_int pa_nil)))) pe_bl (nomark _)))))))))))))), ?_⟩
    refine ⟨_, rfl, b, rfl, hB, fun lo H1 d1 hB1 k1 => ?_⟩
    refine ⟨_, rfl, _, rfl, _, _, rfl, rfl, ⟨by decide, by decide, by decide⟩, (by show 4 ≤ sizeLine; decide), fun l hl => ?_⟩
    refine ⟨b, l, _, rfl, hB1.same (same_new hl), hB1.ne hl, upd_same, (by decide), (by decide), fun i v H2 hv hB2 k2 => ?_⟩
    have hm := List.mem_of_getElem? hv
    obtain ⟨z, rfl, h1, h2⟩ : ∃ z : Int, v = .int z ∧ 0 ≤ z ∧ z ≤ 10 ^ 30 := by
      simp only [List.mem_cons, List.not_mem_nil, or_false] at hm
      rcases hm with rfl | rfl | rfl | rfl <;> exact ⟨_, rfl, by decide +kernel, by decide +kernel⟩
    have kk2 : But b H H2 := k1.trans ((But.of (same_new hl)).trans k2)
    clear k1 k2 hm hv hB hB1 hl
    have e30 : (10 : Int) ^ 30 + 1 < 2 ^ 8000 := by decide +kernel
    refine ⟨_, _, rfl, rfl, ?_⟩
    refine ⟨_, rfl, _, rfl, _, rfl, _, rfl, _, _, rfl, rfl, _, _, rfl, rfl, b, _, rfl, hB2, by omega, by omega, fun m H3 m0 m1 hB3 k3 => ⟨_, _, rfl, rfl, ?_⟩⟩
    have kk3 := kk2.trans k3
    clear kk2 k3 hB2
    refine ⟨_, rfl, _, rfl, _, rfl, _, rfl, _, _, rfl, rfl, _, rfl, _, _, rfl, rfl, (by show 5 ≤ sizeLine; decide), fun l2 hl2 => ?_⟩
    refine ⟨l2, rfl, ⟨_, SqL.of upd_same⟩, fun D hD => ?_⟩
    refine lc_mapL (K := K) (a := l2) (j := 6) (ys := ([true, true, true, false, false] : List Bool).map V.bl) (SqL.of upd_same) hD rfl (by show 5 ≤ 100000; decide) (fun i x y H4 hx hy s4 Q' q' => ?_) (fun H4 s4 h4 => ?_)
    · refine ⟨_, rfl, _, rfl, _, rfl, x, lo, lo + z, rfl, .inl ?_⟩
      match i, hx, hy with
      | 0, hx, hy => cases hx; cases hy; exact ⟨_, rfl, by rw [show (decide (lo ≤ lo) && decide (lo ≤ lo + z)) = true from by simp; omega]; exact q' _ (Same.refl _)⟩
      | 1, hx, hy => cases hx; cases hy; exact ⟨_, rfl, by rw [show (decide (lo ≤ lo + z) && decide (lo + z ≤ lo + z)) = true from by simp; omega]; exact q' _ (Same.refl _)⟩
      | 2, hx, hy => cases hx; cases hy; exact ⟨_, rfl, by rw [show (decide (lo ≤ lo + m) && decide (lo + m ≤ lo + z)) = true from by simp; omega]; exact q' _ (Same.refl _)⟩
      | 3, hx, hy => cases hx; cases hy; exact ⟨_, rfl, by rw [show (decide (lo ≤ lo - 1) && decide (lo - 1 ≤ lo + z)) = false from by simp; omega]; exact q' _ (Same.refl _)⟩
      | 4, hx, hy => cases hx; cases hy; exact ⟨_, rfl, by rw [show (decide (lo ≤ lo + z + 1) && decide (lo + z + 1 ≤ lo + z)) = false from by simp; omega]; exact q' _ (Same.refl _)⟩
      | n + 5, hx, hy => cases hx
    · have t4 : But b H H4 := kk3.trans ((But.of (same_new hl2)).trans (But.of s4))
      have hB4 : Bag H4 b := hB3.same ((same_new hl2).trans s4)
      clear kk3 hB3 s4 hl2 hD
      refine ⟨_, rfl, (by show 5 ≤ sizeLine; decide), fun l3 hl3 => ne_bls (ns := [true, true, true, false, false]) (ms := [true, true, true, false, false]) (SqL.of (same_new hl3 _ _ h4)) (SqL.of upd_same) ⟨_, rfl, iteNS rfl ?_⟩⟩
      have t5 := t4.trans (But.of (same_new (o := .lst [V.bl true, V.bl true, V.bl true, V.bl false, V.bl false]) hl3))
      have hB5 := hB4.same (same_new (o := .lst [V.bl true, V.bl true, V.bl true, V.bl false, V.bl false]) hl3)
      generalize upd H4 l3 (.lst [V.bl true, V.bl true, V.bl true, V.bl false, V.bl false]) = G at t5 hB5
      clear t4 hB4 hl3 h4
      refine ⟨(by show 1 ≤ sizeLine; decide), fun t ht => ⟨(by show 1 ≤ sizeLine; decide), fun l4 hl4 => ⟨(by show 7 ≤ sizeLine; decide), fun l5 hl5 => ?_⟩⟩⟩
      have u1 : (upd (upd (upd G t (.tup [V.int 1])) l4 (.lst [V.int 1])) l5 (.lst [V.non, V.str "1", V.ref t, V.ref l4, V.str "", V.bl true, V.bl false])) t = some (.tup [V.int 1]) := (same_new hl5) _ _ ((same_new hl4) _ _ upd_same)
      have u2 : (upd (upd (upd G t (.tup [V.int 1])) l4 (.lst [V.int 1])) l5 (.lst [V.non, V.str "1", V.ref t, V.ref l4, V.str "", V.bl true, V.bl false])) l4 = some (.lst [V.int 1]) := (same_new hl5) _ _ upd_same
      refine ⟨_, rfl, l5, rfl, ⟨_, SqL.of upd_same⟩, fun D2 hD2 => ?_⟩
      refine lc_mapL (K := K) (a := l5) (j := 6) (ys := ([false, false, false, false, false, false, false] : List Bool).map V.bl) (SqL.of upd_same) hD2 rfl (by show 7 ≤ 100000; decide) (fun i x y H4 hx hy s4 Q' q' => ?_) (fun H5 s5 h5 => ?_)
      · refine ⟨_, rfl, _, rfl, x, _, _, rfl, .inr ?_⟩
        match i, hx, hy with
        | 0, hx, hy => cases hx; cases hy; exact .inr ⟨_, .base .non, by decide +kernel, q' _ (Same.refl _)⟩
        | 1, hx, hy => cases hx; cases hy; exact .inr ⟨_, .base (.str _), by decide +kernel, q' _ (Same.refl _)⟩
        | 2, hx, hy => cases hx; cases hy; exact .inr ⟨_, .base (.tup (s4 _ _ u1)), by decide +kernel, q' _ (Same.refl _)⟩
        | 3, hx, hy => cases hx; cases hy; exact .inr ⟨_, .base (.lst (s4 _ _ u2)), by decide +kernel, q' _ (Same.refl _)⟩
        | 4, hx, hy => cases hx; cases hy; exact .inr ⟨_, .base (.str _), by decide +kernel, q' _ (Same.refl _)⟩
        | 5, hx, hy => cases hx; cases hy; exact .inl ⟨_, rfl, q' _ (Same.refl _)⟩
        | 6, hx, hy => cases hx; cases hy; exact .inl ⟨_, rfl, q' _ (Same.refl _)⟩
        | n + 7, hx, hy => cases hx
      · have s6 : Same G H5 := ((same_new ht).trans ((same_new hl4).trans (same_new hl5))).trans s5
        have t6 := t5.trans (But.of s6)
        have hB6 := hB5.same s6
        clear t5 hB5 s6 u1 u2 s5 hl5 hl4 ht hD2
        refine ⟨_, rfl, (by show 1 ≤ sizeLine; decide), fun l6 hl6 => ⟨l6, 7, _, rfl, rfl, upd_same, by decide, by decide, by decide, fun l7 hl7 => ?_⟩⟩
        refine eq_bls (ns := [false, false, false, false, false, false, false]) (ms := [false, false, false, false, false, false, false]) (SqL.of (same_new hl7 _ _ (same_new hl6 _ _ h5))) (SqL.of upd_same) ⟨_, rfl, ite_dy rfl ?_⟩
        refine ⟨_, rfl, _, _, _, rfl, .inl ⟨1, rfl, true, true, rfl, rfl, _, rfl, ite_dy rfl ?_⟩⟩
        exact ⟨_, _, _, rfl, .inl ⟨0, rfl, true, true, rfl, rfl, k _ (hB6.same ((same_new hl6).trans (same_new hl7))) (t6.trans (But.of ((same_new hl6).trans (same_new hl7))))⟩⟩
end
end My
set_option Elab.async false
set_option maxRecDepth 100000
set_option maxHeartbeats 4000000
namespace My
open PySem L2
/-! ### lists of days -/
theorem dys_flat (ds : List Nat) : (dys ds).all flatV = true := by
  unfold dys nInt
  simp [flatV]
theorem inV_dys (d : Nat) (ds : List Nat) : inV (.int (d : Int)) (dys ds) = decide (d ∈ ds) := by
  unfold inV dys nInt
  induction ds with
  | nil => rfl
  | cons e r ih =>
    rw [List.map_cons, List.map_cons, List.any_cons, ih]
    have : eqV (V.int (e : Int)) (V.int (d : Int)) = decide (d = e) := by
      show ((e : Int) == (d : Int)) = decide (d = e)
      by_cases h : d = e
      · subst h; simp
      · have h2 : ¬ (e : Int) = (d : Int) := by omega
        simp [h, h2]
    rw [this]
    by_cases h : d = e <;> simp [h]
theorem dys_filter (f : V → Bool) (g : Nat → Bool) (h : ∀ d : Nat, f (.int (d : Int)) = g d) : ∀ ds : List Nat, (dys ds).filter f = dys (ds.filter g)
  | [] => rfl
  | d :: r => by
    have ih := dys_filter f g h r
    show (V.int (d : Int) :: dys r).filter f = _
    by_cases z : g d = true
    · rw [List.filter_cons_of_pos (by rw [h]; exact z), List.filter_cons_of_pos z, ih]; rfl
    · rw [List.filter_cons_of_neg (by rw [h]; exact z), List.filter_cons_of_neg z, ih]
theorem dys_take (ds : List Nat) (n : Nat) : (dys ds).take n = dys (ds.take n) := by unfold dys nInt; rw [List.map_take, List.map_take]
theorem dys_rev (ds : List Nat) : (dys ds).reverse = dys ds.reverse := by unfold dys nInt; rw [List.map_reverse, List.map_reverse]
theorem dys_eq (ds es : List Nat) : (nInt ds = nInt es) ↔ ds = es := by
  unfold nInt
  constructor
  · intro h
    exact (List.map_inj_right (fun a b e => Int.ofNat.inj e)).mp h
  · rintro rfl; rfl
theorem pow_sum (ds : List Nat) : (ds.map fun d : Nat => (1 : Int) * 2 ^ (d : Int).toNat).sum = (((ds.map fun d => 2 ^ d).sum : Nat) : Int) := by
  induction ds with
  | nil => rfl
  | cons d r ih =>
    rw [List.map_cons, List.sum_cons, ih, List.map_cons, List.sum_cons, Int.toNat_natCast, Int.one_mul, ← PySem.W.kbt_cast]
    rfl
theorem cut1 (ds : List Nat) : cutV (dys ds) none (some 1) = dys (ds.take 1) := by
  unfold cutV
  rw [HT.sIx_none, List.drop_zero, show HT.sIx (dys ds).length (dys ds).length (some 1) = min 1 (dys ds).length from HT.sIx_nat _ _ 1, dys_len, Nat.sub_zero, dys_take]
  congr 1
  cases ds with
  | nil => rfl
  | cons d r =>
    have : min 1 (d :: r).length = 1 := by simp
    rw [this]
/-- [e for k in range(n)], the heap but for new objects as it was -/
theorem lc_mapR {D : Addr} {n : Nat} {ys : List V} {j : Nat} {te : TE} {σ : St} {H : Hp} {Qd : Hp → Prop} (hD : H D = none) (hl : n = ys.length) (hn : n ≤ 100000)
    (he : ∀ (i : Nat) (y : V) (H2 : Hp), ys[i]? = some y → Same H H2 → ∀ Q : VK, (∀ H3, Same H2 H3 → Q y H3) → te ((wipe σ [j]).set j (some (.int (0 + (i : Int))))) H2 Q)
    (hd : ∀ H2, Same H H2 → H2 D = some (.lst ys) → Qd H2) :
    ∃ W : Nat → Nat → Hp → Prop, (∃ m, W 0 m (upd H D (.lst []))) ∧ ∀ i m H, W i m H →
      ((Itr 0 n).stop i H ∧ Qd H) ∨ ((Itr 0 n).go i H ∧ ∃ Nx : Hp → Prop, (∀ H', Nx H' → ∃ m', m' < m ∧ W (i + 1) m' H') ∧ ∀ x H', (Itr 0 n).yld i H x H' → gName j x (wipe σ [j]) H' fun σ2 H2 => wipe σ2 [j] = wipe σ [j] ∧ tYes σ2 H2 fun b H3 =>
        if b = true then te σ2 H3 fun y H4 => ∃ acc, H4 D = some (.lst acc) ∧ acc.length < sizeLine ∧ Nx (upd H4 D (.lst (acc ++ [y]))) else Nx H3) := by
  refine lc_range (lo := 0) (n := n) (fun i H2 => Same H H2 ∧ H2 D = some (.lst (ys.take i))) ⟨same_new hD, upd_same⟩ ?_ ?_
  · rintro i H2 hi ⟨s2, h2⟩
    have hy : ys[i]? = some (ys[i]'(by omega)) := List.getElem?_eq_getElem _
    refine ⟨wipe1 σ j _, ?_⟩
    refine iteT (B := Same H H2 ∧ H2 D = some (.lst (ys.take (i + 1)))) ?_
    refine he i _ H2 hy s2 _ fun H3 s3 => ?_
    refine ⟨_, s3 _ _ h2, ?_, fun b o e => ?_, ?_⟩
    · rw [List.length_take]
      exact Nat.lt_of_le_of_lt (Nat.min_le_left _ _) (Nat.lt_of_lt_of_le hi (Nat.le_trans hn (by decide)))
    · rw [upd_ne (ne_of_none e hD)]
      exact s3 _ _ (s2 _ _ e)
    · rw [upd_same, List.take_add_one, hy]
      rfl
  · rintro H2 ⟨s2, h2⟩
    refine hd H2 s2 ?_
    rw [h2, hl, List.take_length]
/-- [k for k in range(n) if t], the test drawing from the bag -/
theorem lc_drawR {D b : Addr} {n : Nat} {j : Nat} {tt : TT} {σ : St} {H : Hp} {Qd : Hp → Prop} (hj : j < σ.length) (hD : H D = none) (hB : Bag H b) (hn : n ≤ 100000)
    (ht : ∀ (i : Nat) (H2 : Hp), Bag H2 b → ∀ Q : Bool → Hp → Prop, (∀ c H3, Bag H3 b → But b H2 H3 → Q c H3) → tt ((wipe σ [j]).set j (some (.int (0 + (i : Int))))) H2 Q)
    (hd : ∀ (f : Nat → Bool) H2, Bag H2 b → But b H H2 → H2 D = some (.lst (dys ((List.range n).filter f))) → Qd H2) :
    ∃ W : Nat → Nat → Hp → Prop, (∃ m, W 0 m (upd H D (.lst []))) ∧ ∀ i m H, W i m H →
      ((Itr 0 n).stop i H ∧ Qd H) ∨ ((Itr 0 n).go i H ∧ ∃ Nx : Hp → Prop, (∀ H', Nx H' → ∃ m', m' < m ∧ W (i + 1) m' H') ∧ ∀ x H', (Itr 0 n).yld i H x H' → gName j x (wipe σ [j]) H' fun σ2 H2 => wipe σ2 [j] = wipe σ [j] ∧ tt σ2 H2 fun b H3 =>
        if b = true then tVar j σ2 H3 fun y H4 => ∃ acc, H4 D = some (.lst acc) ∧ acc.length < sizeLine ∧ Nx (upd H4 D (.lst (acc ++ [y]))) else Nx H3) := by
  have nD : D ≠ b := hB.ne hD
  refine lc_range (lo := 0) (n := n) (fun i H2 => Bag H2 b ∧ But b H H2 ∧ ∃ f : Nat → Bool, H2 D = some (.lst (dys ((List.range i).filter f)))) ⟨hB.same (same_new hD), But.of (same_new hD), fun _ => true, upd_same⟩ ?_ ?_
  · rintro i H2 hi ⟨hB2, k2, f, h2⟩
    refine ⟨wipe1 σ j _, ht i H2 hB2 _ fun c H3 hB3 k3 => ?_⟩
    have h3 := k3 _ _ nD h2
    have ef : (List.range (i + 1)).filter (fun d => if d = i then c else f d) = (List.range i).filter f ++ (if c = true then [i] else []) := by
      rw [filter_step, if_pos rfl]
      congr 1
      refine List.filter_congr fun d hd => ?_
      have := List.mem_range.mp hd
      rw [if_neg (by omega)]
    refine ite2 (fun z => ?_) (fun z => ?_)
    · refine ⟨.int (0 + (i : Int)), ?_, _, h3, ?_, ?_, fun a o ne e => ?_, fun d => if d = i then c else f d, ?_⟩
      · show ((σ.set j none).set j (some (.int (0 + (i : Int)))))[j]? = _
        rw [List.set_set, List.getElem?_set_self hj]
      · rw [dys_len]
        refine Nat.lt_of_le_of_lt (List.length_filter_le _ _) ?_
        rw [List.length_range]
        exact Nat.lt_of_lt_of_le hi (Nat.le_trans hn (by decide))
      · obtain ⟨x, m, q, e, r⟩ := hB3
        exact ⟨x, m, q, by rw [upd_ne (Ne.symm nD)]; exact e, r⟩
      · rw [upd_ne (ne_of_none e hD)]
        exact k3 _ _ ne (k2 _ _ ne e)
      · rw [upd_same, ef, if_pos z, dys_app, Int.zero_add]
        rfl
    · refine ⟨hB3, k2.trans k3, fun d => if d = i then c else f d, ?_⟩
      rw [h3, ef, if_neg z, List.append_nil]
  · rintro H2 ⟨hB2, k2, f, h2⟩
    exact hd f H2 hB2 k2 h2
end My
set_option Elab.async false
set_option maxRecDepth 100000
set_option maxHeartbeats 4000000
namespace My
open PySem L2
structure BtS (mg : Str → Option Value) : Prop where
  range : mg "range" = none
  len : mg "len" = none
  sum : mg "sum" = none
  list : mg "list" = none
  tuple : mg "tuple" = none
  isinstance : mg "isinstance" = none
section
variable {P : Program} {w : World} {K : PySem.W.Frag} {mg : Str → Option Value} {base : Heap}
/-- sum([1 << d for d in ds]) over the list at a -/
theorem sum_days {a : Addr} {ds : List Nat} {σ : St} {H : Hp} {te : TE} {j : Nat} {D : Addr} {Qd : Hp → Prop} (hte : te = tOp (rI CPow fun i j => V.int (i * 2 ^ j.toNat)) (tC (.int 1)) (tVar j)) (hj : j < σ.length) (ha : H a = some (.lst (dys ds))) (hn : ds.Nodup) (hb : ∀ d ∈ ds, d < 1000) (hlen : ds.length ≤ 100000)
    (hD : H D = none) (k : ∀ (H' : Hp) (ns : List Int), Same H H' → SqL K H' D (ns.map V.int) → ns.sum = ((setOf ds : Nat) : Int) → Qd H') :
    ∃ W : Nat → Nat → Hp → Prop, (∃ m, W 0 m (upd H D (.lst []))) ∧ ∀ i m H, W i m H →
      ((Itl K a).stop i H ∧ Qd H) ∨ ((Itl K a).go i H ∧ ∃ Nx : Hp → Prop, (∀ H', Nx H' → ∃ m', m' < m ∧ W (i + 1) m' H') ∧ ∀ x H', (Itl K a).yld i H x H' → gName j x (wipe σ [j]) H' fun σ2 H2 => wipe σ2 [j] = wipe σ [j] ∧ tYes σ2 H2 fun b H3 =>
        if b = true then te σ2 H3 fun y H4 => ∃ acc, H4 D = some (.lst acc) ∧ acc.length < sizeLine ∧ Nx (upd H4 D (.lst (acc ++ [y]))) else Nx H3) := by
  subst hte
  refine lc_mapL (K := K) (a := a) (ys := (ds.map fun d : Nat => (1 : Int) * 2 ^ (d : Int).toNat).map V.int) (SqL.of ha) hD (by rw [dys_len, List.length_map, List.length_map]) (by rw [dys_len]; exact hlen) (fun i x y H2 hx hy s2 Q' q' => ?_) (fun H2 s2 h2 => ?_)
  · obtain ⟨d, e1, rfl⟩ := dys_at hx
    have hd := hb d (List.mem_of_getElem? e1)
    have ey : y = .int (1 * 2 ^ (d : Int).toNat) := by
      rw [List.getElem?_map, List.getElem?_map, e1] at hy
      exact (Option.some.inj hy).symm
    subst ey
    refine ⟨.int (d : Int), ?_, _, _, rfl, rfl, ⟨by omega, by omega, by decide⟩, q' _ (Same.refl _)⟩
    show ((σ.set j none).set j (some (.int (d : Int))))[j]? = _
    rw [List.set_set, List.getElem?_set_self hj]
  · exact k _ _ s2 (SqL.of h2) (by rw [pow_sum, sum_setOf hn])
/-- [d for d in ds if d not in es] -/
theorem lc_notin {aL aE D : Addr} {ds es : List Nat} {j e : Nat} {tt : TT} {σ : St} {H : Hp} {Qd : Hp → Prop} (htt : tt = tTest (tOp (rIn K true) (tVar j) (tVar e))) (hj : j < σ.length) (hje : j ≠ e) (he : σ[e]? = some (some (.ref aE)))
    (ha : H aL = some (.lst (dys ds))) (hE : H aE = some (.lst (dys es))) (hD : H D = none) (hn : ds.length ≤ 100000)
    (hd : ∀ H2, Same H H2 → H2 D = some (.lst (dys (ds.filter fun d => !decide (d ∈ es)))) → Qd H2) :
    ∃ W : Nat → Nat → Hp → Prop, (∃ m, W 0 m (upd H D (.lst []))) ∧ ∀ i m H, W i m H →
      ((Itl K aL).stop i H ∧ Qd H) ∨ ((Itl K aL).go i H ∧ ∃ Nx : Hp → Prop, (∀ H', Nx H' → ∃ m', m' < m ∧ W (i + 1) m' H') ∧ ∀ x H', (Itl K aL).yld i H x H' → gName j x (wipe σ [j]) H' fun σ2 H2 => wipe σ2 [j] = wipe σ [j] ∧ tt σ2 H2 fun b H3 =>
        if b = true then tVar j σ2 H3 fun y H4 => ∃ acc, H4 D = some (.lst acc) ∧ acc.length < sizeLine ∧ Nx (upd H4 D (.lst (acc ++ [y]))) else Nx H3) := by
  subst htt
  refine lc_filterL (K := K) (a := aL) (xs := dys ds) (fun x => !inV x (dys es)) hj (SqL.of ha) hD (by rw [dys_len]; exact hn) (fun i x H2 hx s2 Q' q' => ?_) (fun H2 s2 h2 => hd H2 s2 ?_)
  · obtain ⟨d, e1, rfl⟩ := dys_at hx
    refine ⟨.int (d : Int), ?_, .ref aE, ?_, aE, _, rfl, .inl (SqL.of (s2 _ _ hE)), rfl, dys_flat _, _, rfl, q' _ (Same.refl _)⟩
    · show ((σ.set j none).set j (some (.int (d : Int))))[j]? = _
      rw [List.set_set, List.getElem?_set_self hj]
    · show ((σ.set j none).set j (some (.int (d : Int))))[e]? = _
      rw [List.set_set, List.getElem?_set_ne hje, he]
  · rw [h2, dys_filter _ (fun d => !decide (d ∈ es)) (fun d => by rw [inV_dys])]
abbrev s_l_day_sets : Stmt := top 26
abbrev N_l_day_sets : List Str := ["_law_bag_here", "_law_days", "_law_others", "_law_mask", "_law_wide", "_law_turned", "_law_kept", "_law_told", "_law_due", "_law_day", "_law_k"]
theorem sc_l_day_sets : FnScope N_l_day_sets ["_law_bag_here"] (defScope s_l_day_sets) := ⟨rfl, rfl, rfl, by decide +kernel, rfl, by decide +kernel, by decide +kernel⟩
theorem ok_l_day_sets {f fT fO fD fS fZ fW : Addr} {fd fdT fdO fdD fdS fdZ fdW : FuncData} (F : Fun K "_law_day_sets" "_law_day_sets" s_l_day_sets f fd) (T : BtS mg)
    (D_l_take : Df K mg "_law_take" ["_law_bag_here", "_law_many"] fT fdT) (G_l_take : FnOk P w K mg base CX0 2 fT fdT ["_law_bag_here", "_law_many"] sp_l_take)
    (D_l_of : Df K mg "_law_of" ["_law_bag_here", "_law_some"] fO fdO) (G_l_of : FnOk P w K mg base CX0 3 fO fdO ["_law_bag_here", "_law_some"] sp_l_of)
    (D_days_in : Df K mg "days_in" ["day_set"] fD fdD) (G_days_in : FnOk P w K mg base CX0 2 fD fdD ["day_set"] sp_days_in)
    (D_set_of : Df K mg "set_of" ["days"] fS fdS) (G_set_of_l : FnOk P w K mg base CX0 2 fS fdS ["days"] sp_set_of_l) (G_set_of_t : FnOk P w K mg base CX0 2 fS fdS ["days"] sp_set_of_t)
    (D_size : Df K mg "size" ["day_set"] fZ fdZ) (G_size : FnOk P w K mg base CX0 3 fZ fdZ ["day_set"] sp_size)
    (D_within : Df K mg "within" ["one", "other"] fW fdW) (G_within : FnOk P w K mg base CX0 2 fW fdW ["one", "other"] sp_within) :
    FnOk P w K mg base CX0 7 f fd ["_law_bag_here"] sp_check := by
  refine F.ok sc_l_day_sets (fun vs H Q E h => ?_) (fun cdv A outer s H vs Q E hr h => ?_)
  · obtain ⟨b, rfl, _⟩ := h
    rfl
  · obtain ⟨b, rfl, hB, k⟩ := h
    refine ⟨_, (pss_cons (ps_set (i := 1) sc_l_day_sets.nd rfl (Or.inr rfl) (pe_lc (own := [("_law_day", 9)]) (g := gName 9) rfl sc_l_day_sets.nd (pi_range1 (by rfl) T.range (pa_cons (pe_call G_l_of (hr.mono (by decide)) (by rfl) D_l_of.g D_l_of.kp D_l_of.b .nil pass0 (pa_cons (pv 0) (pa_cons (pe_lst (pa_cons pe_int (pa_cons pe_int (pa_cons pe_int (pa_cons pe_int pa_nil))))) pa_nil))) pa_nil)) (blkOk_by (N := N_l_day_sets) (sc := defScope s_l_day_sets) (by decide +kernel)) (fun _ _ _ _ _ => (pg_name (i := 9) sc_l_day_sets.nd rfl (Or.inl rfl))) (fun _ _ _ _ _ => (pts_one (pt_cmpR op_eq (pe_call G_l_take (hr.mono (by decide)) (by rfl) D_l_take.g D_l_take.kp D_l_take.b .nil pass0 (pa_cons (pv 0) (pa_cons pe_int pa_nil))) pe_int (nomark _)))) (fun _ _ _ _ _ => (pv 9))))
        (pss_cons (ps_set (i := 2) sc_l_day_sets.nd rfl (Or.inr rfl) (pe_lc (own := [("_law_day", 9)]) (g := gName 9) rfl sc_l_day_sets.nd (pi_range1 (by rfl) T.range (pa_cons pe_int pa_nil)) (blkOk_by (N := N_l_day_sets) (sc := defScope s_l_day_sets) (by decide +kernel)) (fun _ _ _ _ _ => (pg_name (i := 9) sc_l_day_sets.nd rfl (Or.inl rfl))) (fun _ _ _ _ _ => (pts_one (pt_cmpR op_gt (pe_call G_l_take (hr.mono (by decide)) (by rfl) D_l_take.g D_l_take.kp D_l_take.b .nil pass0 (pa_cons (pv 0) (pa_cons pe_int pa_nil))) pe_int (nomark _)))) (fun _ _ _ _ _ => (pv 9))))
        (pss_cons (ps_if (pt_cmpR op_eq (pe_call G_l_take (hr.mono (by decide)) (by rfl) D_l_take.g D_l_take.kp D_l_take.b .nil pass0 (pa_cons (pv 0) (pa_cons pe_int pa_nil))) pe_int (nomark _)) (pss_one (ps_set (i := 2) sc_l_day_sets.nd rfl (Or.inr rfl) (pe_op op_cat (pv 2) (pe_lc (own := [("_law_day", 9)]) (g := gName 9) rfl sc_l_day_sets.nd (pi_list (pv 1)) (blkOk_by (N := N_l_day_sets) (sc := defScope s_l_day_sets) (by decide +kernel)) (fun _ _ _ _ _ => (pg_name (i := 9) sc_l_day_sets.nd rfl (Or.inl rfl))) (fun _ _ _ _ _ => (pts_one (pt_cmpR (op_notInK (K := K) rfl) (pv 9) (pv 2) (by rfl)))) (fun _ _ _ _ _ => (pv 9)))))) pss_nil)
        (pss_cons (ps_set (i := 3) sc_l_day_sets.nd rfl (Or.inl rfl) (pe_callB (cr_sum rfl) (by rfl) T.sum (by decide +kernel) (pa_cons (pe_lc (own := [("_law_day", 9)]) (g := gName 9) (tt := tYes) rfl sc_l_day_sets.nd (pi_list (pv 1)) (blkOk_by (N := N_l_day_sets) (sc := defScope s_l_day_sets) (by decide +kernel)) (fun _ _ _ _ _ => (pg_name (i := 9) sc_l_day_sets.nd rfl (Or.inl rfl))) (fun _ _ _ _ _ => pts_nil) (fun _ _ _ _ _ => (pe_op op_shl pe_int (pv 9)))) pa_nil)))
        (pss_cons (ps_set (i := 4) sc_l_day_sets.nd rfl (Or.inl rfl) (pe_callB (cr_sum rfl) (by rfl) T.sum (by decide +kernel) (pa_cons (pe_lc (own := [("_law_day", 9)]) (g := gName 9) (tt := tYes) rfl sc_l_day_sets.nd (pi_list (pv 2)) (blkOk_by (N := N_l_day_sets) (sc := defScope s_l_day_sets) (by decide +kernel)) (fun _ _ _ _ _ => (pg_name (i := 9) sc_l_day_sets.nd rfl (Or.inl rfl))) (fun _ _ _ _ _ => pts_nil) (fun _ _ _ _ _ => (pe_op op_shl pe_int (pv 9)))) pa_nil)))
        (pss_cons (ps_set (i := 5) sc_l_day_sets.nd rfl (Or.inl rfl) (pe_op op_cat (pe_lc (own := [("_law_k", 10)]) (g := gName 10) (tt := tYes) rfl sc_l_day_sets.nd (pi_range1 (by rfl) T.range (pa_cons (pe_callB call_len_seq (by rfl) T.len (by decide +kernel) (pa_cons (pv 1) pa_nil)) pa_nil)) (blkOk_by (N := N_l_day_sets) (sc := defScope s_l_day_sets) (by decide +kernel)) (fun _ _ _ _ _ => (pg_name (i := 10) sc_l_day_sets.nd rfl (Or.inl rfl))) (fun _ _ _ _ _ => pts_nil) (fun _ _ _ _ _ => (pe_ix (ix_listK (K := K) rfl) (pv 1) (pe_op op_sub (pe_op op_sub (pe_callB (call_lenK (K := K) rfl) (by rfl) T.len (by decide +kernel) (pa_cons (pv 1) pa_nil)) pe_int) (pv 10)) (fun _ _ => rfl)))) (pe_slice sl_list (pv 1) po_none (po_some pe_int))))
        (pss_cons (ps_set (i := 6) sc_l_day_sets.nd rfl (Or.inl rfl) (pe_callTy call_list_of (by rfl) T.list (by decide +kernel) (pa_cons (pv 5) pa_nil)))
        (pss_cons (ps_set (i := 7) sc_l_day_sets.nd rfl (Or.inl rfl) (pe_call G_days_in (hr.mono (by decide)) (by rfl) D_days_in.g D_days_in.kp D_days_in.b .nil pass0 (pa_cons (pv 3) pa_nil)))
        (pss_cons (ps_if (PW.pt (pw_or (pt_not (pt_val (pe_callB call_isi (by rfl) T.isinstance (by decide +kernel) (pa_cons (pv 7) (pa_cons (pe_bltn (v := .ty "tuple") (by rfl) T.tuple (by decide +kernel) rfl) pa_nil))))) (pw_or (pt_cmpR (op_neD hr.units) (pe_callTy call_list_of (by rfl) T.list (by decide +kernel) (pa_cons (pv 7) pa_nil)) (pv 1) (nomark _)) (pw_or1 (pt_cmpR (op_neD hr.units) (pe_call G_days_in (hr.mono (by decide)) (by rfl) D_days_in.g D_days_in.kp D_days_in.b .nil pass0 (pa_cons pe_int pa_nil)) (pe_tup pa_nil) (nomark _)))))) (pss_one (ps_ret pe_bl)) pss_nil)
        (pss_cons (ps_if (PW.pt (pw_or (pt_cmpR op_ne (pe_call G_set_of_l (hr.mono (by decide)) (by rfl) D_set_of.g D_set_of.kp D_set_of.b .nil pass0 (pa_cons (pv 5) pa_nil)) (pv 3) (nomark _)) (pw_or (pt_cmpR op_ne (pe_call G_set_of_t (hr.mono (by decide)) (by rfl) D_set_of.g D_set_of.kp D_set_of.b .nil pass0 (pa_cons (pe_callTy call_tuple_of (by rfl) T.tuple (by decide +kernel) (pa_cons (pv 1) pa_nil)) pa_nil)) (pv 3) (nomark _)) (pw_or (pt_cmpR op_ne (pe_call G_set_of_l (hr.mono (by decide)) (by rfl) D_set_of.g D_set_of.kp D_set_of.b .nil pass0 (pa_cons (pe_lst pa_nil) pa_nil)) pe_int (nomark _)) (pw_or1 (pt_cmpR (op_neD hr.units) (pv 5) (pv 6) (nomark _))))))) (pss_one (ps_ret pe_bl)) pss_nil)
        (pss_cons (ps_if (PW.pt (pw_or (pt_cmpR op_ne (pe_call G_size (hr.mono (by decide)) (by rfl) D_size.g D_size.kp D_size.b .nil pass0 (pa_cons (pv 3) pa_nil)) (pe_callB call_len_seq (by rfl) T.len (by decide +kernel) (pa_cons (pv 1) pa_nil)) (nomark _)) (pw_or1 (pt_cmpR op_ne (pe_call G_size (hr.mono (by decide)) (by rfl) D_size.g D_size.kp D_size.b .nil pass0 (pa_cons (pv 4) pa_nil)) (pe_callB call_len_seq (by rfl) T.len (by decide +kernel) (pa_cons (pv 2) pa_nil)) (nomark _))))) (pss_one (ps_ret pe_bl)) pss_nil)
        (pss_cons (ps_set (i := 8) sc_l_day_sets.nd rfl (Or.inl rfl) (pe_cmpR (op_eqD hr.units) (pe_lc (own := [("_law_day", 9)]) (g := gName 9) rfl sc_l_day_sets.nd (pi_list (pv 1)) (blkOk_by (N := N_l_day_sets) (sc := defScope s_l_day_sets) (by decide +kernel)) (fun _ _ _ _ _ => (pg_name (i := 9) sc_l_day_sets.nd rfl (Or.inl rfl))) (fun _ _ _ _ _ => (pts_one (pt_cmpR (op_notInK (K := K) rfl) (pv 9) (pv 2) (by rfl)))) (fun _ _ _ _ _ => (pv 9))) (pe_lst pa_nil) (nomark _)))
        (pss_cons (ps_if (PW.pt (pw_or (pt_cmpR op_ne (pe_call G_within (hr.mono (by decide)) (by rfl) D_within.g D_within.kp D_within.b .nil pass0 (pa_cons (pv 3) (pa_cons (pv 4) pa_nil))) (pv 8) (nomark _)) (pw_or (pt_cmpR op_notBl (pe_call G_within (hr.mono (by decide)) (by rfl) D_within.g D_within.kp D_within.b .nil pass0 (pa_cons (pv 3) (pa_cons (pv 3) pa_nil))) pe_bl (nomark _)) (pw_or1 (pt_cmpR op_notBl (pe_call G_within (hr.mono (by decide)) (by rfl) D_within.g D_within.kp D_within.b .nil pass0 (pa_cons pe_int (pa_cons (pv 4) pa_nil))) pe_bl (nomark _)))))) (pss_one (ps_ret pe_bl)) pss_nil)
        (pss_one (ps_ret (pe_cmpR op_eq (pe_call G_within (hr.mono (by decide)) (by rfl) D_within.g D_within.kp D_within.b .nil pass0 (pa_cons (pv 4) (pa_cons (pv 3) pa_nil))) (pe_cmpR (op_eqD hr.units) (pe_lc (own := [("_law_day", 9)]) (g := gName 9) rfl sc_l_day_sets.nd (pi_list (pv 2)) (blkOk_by (N := N_l_day_sets) (sc := defScope s_l_day_sets) (by decide +kernel)) (fun _ _ _ _ _ => (pg_name (i := 9) sc_l_day_sets.nd rfl (Or.inl rfl))) (fun _ _ _ _ _ => (pts_one (pt_cmpR (op_notInK (K := K) rfl) (pv 9) (pv 1) (by rfl)))) (fun _ _ _ _ _ => (pv 9))) (pe_lst pa_nil) (nomark _)) (nomark _))))))))))))))))), ?_⟩
    refine ⟨_, rfl, (by show 4 ≤ sizeLine; decide), fun l hl => ?_⟩
    refine ⟨b, l, _, rfl, hB.same (same_new hl), hB.ne hl, upd_same, (by decide), (by decide), fun i v H1 hv hB1 k1 => ?_⟩
    have hm := List.mem_of_getElem? hv
    obtain ⟨N, rfl, hN⟩ : ∃ N : Nat, v = .int (N : Int) ∧ N ≤ 16 := by
      simp only [List.mem_cons, List.not_mem_nil, or_false] at hm
      rcases hm with rfl | rfl | rfl | rfl
      · exact ⟨2, rfl, by decide⟩
      · exact ⟨4, rfl, by decide⟩
      · exact ⟨8, rfl, by decide⟩
      · exact ⟨16, rfl, by decide⟩
    have kk1 : But b H H1 := (But.of (same_new hl)).trans k1
    clear k1 hm hv hB hl
    refine ⟨_, rfl, by omega, by omega, fun D hD => ?_⟩
    rw [Int.toNat_natCast]
    refine lc_drawR (b := b) (j := 9) (by show 9 < 11; decide) hD hB1 (by omega) (fun i H2 hB2 Q' q' => ?_) (fun f H2 hB2 k2 h2 => ?_)
    · exact ⟨_, rfl, b, 2, rfl, hB2, by decide, by decide +kernel, fun r H3 r0 r1 hB3 k3 => ⟨rfl, _, rfl, q' _ _ hB3 k3⟩⟩
    have kk2 : But b H H2 := kk1.trans k2
    have nD : D ≠ b := hB1.ne hD
    clear k2 kk1 hB1 hD
    generalize hds : (List.range N).filter f = days at h2
    -- the others
    refine ⟨_, rfl, by decide, by decide, fun D2 hD2 => ?_⟩
    refine lc_drawR (b := b) (j := 9) (by show 9 < 11; decide) hD2 hB2 (by decide) (fun i H3 hB3 Q' q' => ?_) (fun g H3 hB3 k3 h3 => ?_)
    · exact ⟨_, rfl, b, 3, rfl, hB3, by decide, by decide +kernel, fun r H4 r0 r1 hB4 k4 => ⟨_, _, rfl, rfl, _, rfl, q' _ _ hB4 k4⟩⟩
    have kk3 : But b H H3 := kk2.trans k3
    have h3 : H3 D2 = some (.lst (dys ((List.range 16).filter g))) := h3
    have hd3 := k3 _ _ nD h2
    have nD2 : D2 ≠ b := hB2.ne hD2
    clear k3 kk2 hB2 hD2 h2
    try dsimp only [gName]
    have dn : days.Nodup := by rw [← hds]; exact List.Pairwise.filter _ List.nodup_range
    have dl : ∀ d ∈ days, d < 16 := fun d hd => by
      rw [← hds] at hd
      have := List.mem_range.mp (List.mem_filter.mp hd).1
      omega
    have dlen : days.length ≤ 16 := by
      rw [← hds]
      refine Nat.le_trans (List.length_filter_le _ _) ?_
      rw [List.length_range]; exact hN
    have dset : daysOf (setOf days) = days := by rw [← hds]; exact daysOf_filter f hN
    clear hds
    refine seq_of (fun σ' H' => ∃ (oth : List Nat) (aO : Addr), σ' = [some (.ref b), some (.ref D), some (.ref aO), none, none, none, none, none, none, none, none] ∧ H' D = some (.lst (dys days)) ∧ H' aO = some (.lst (dys oth)) ∧ oth.Nodup ∧ (∀ d ∈ oth, d < 16) ∧ Bag H' b ∧ But b H H') (fun nx hnx => ?_) fun σ' H' ⟨oth, aO, eσ, hd4, ho4, on, ol, hB4, kk4⟩ => ?_
    · refine ⟨_, rfl, b, 2, rfl, hB3, by decide, by decide +kernel, fun r H4 r0 r1 hB4 k4 => ⟨rfl, _, rfl, ite2 (fun _ => ?_) (fun _ => ?_)⟩⟩
      · have hd4 := k4 _ _ nD hd3
        have ho4 := k4 _ _ nD2 h3
        refine ⟨_, rfl, _, rfl, D, rfl, ⟨_, SqL.of hd4⟩, fun D3 hD3 => ?_⟩
        refine lc_notin (K := K) (j := 9) (e := 2) rfl (by show 9 < 11; decide) (by decide) rfl hd4 ho4 hD3 (by omega) (fun H5 s5 h5 => ?_)
        refine ⟨D2, D3, _, _, rfl, rfl, s5 _ _ ho4, h5, ?_, fun p hp => hnx _ _ ⟨(List.range 16).filter g ++ days.filter (fun d => !decide (d ∈ (List.range 16).filter g)), p, rfl, (same_new hp) _ _ (s5 _ _ hd4), by rw [upd_same, dys_app], ?_, ?_, hB4.same (s5.trans (same_new hp)), (kk3.trans k4).trans (But.of (s5.trans (same_new hp)))⟩⟩
        · rw [dys_len, dys_len]
          have a1 := List.length_filter_le g (List.range 16)
          have a2 := List.length_filter_le (fun d => !decide (d ∈ (List.range 16).filter g)) days
          rw [List.length_range] at a1
          exact Nat.le_trans (show _ ≤ 32 by omega) (by decide)
        · rw [List.nodup_append]
          refine ⟨List.Pairwise.filter _ List.nodup_range, List.Pairwise.filter _ dn, fun x hx y hy e => ?_⟩
          have h1 := (List.mem_filter.mp hy).2
          subst e
          simp only [Bool.not_eq_true', decide_eq_false_iff_not] at h1
          exact h1 hx
        · intro d hd
          rcases List.mem_append.mp hd with hd | hd
          · exact List.mem_range.mp (List.mem_filter.mp hd).1
          · exact dl d (List.mem_filter.mp hd).1
      · exact hnx _ _ ⟨(List.range 16).filter g, D2, rfl, k4 _ _ nD hd3, k4 _ _ nD2 h3, List.Pairwise.filter _ List.nodup_range, fun d hd => List.mem_range.mp (List.mem_filter.mp hd).1, hB4, kk3.trans k4⟩
    subst eσ
    clear hB3 kk3 hd3 h3 nD nD2
    have operm : (daysOf (setOf oth)).length = oth.length := by
      refine List.Perm.length_eq ((List.perm_ext_iff_of_nodup (List.Pairwise.filter _ List.nodup_range) on).mpr fun d => ?_)
      show d ∈ daysOf (setOf oth) ↔ _
      rw [mem_daysOf, setOf_bit]
      simp only [decide_eq_true_eq]
      exact ⟨fun h => h.2, fun h => ⟨ol d h, h⟩⟩
    have olen : oth.length ≤ 16 := by
      rw [← operm]
      refine Nat.le_trans (List.length_filter_le _ _) ?_
      rw [List.length_range]; exact Nat.le_refl _
    have m16 : setOf days < 2 ^ 16 := setOf_lt dl
    have w16 : setOf oth < 2 ^ 16 := setOf_lt ol
    have sub1 : ∀ xs ys : List Nat, decide (setOf xs &&& setOf ys = setOf xs) = decide (nInt (xs.filter fun d => !decide (d ∈ ys)) = []) := fun xs ys => by
      refine decide_eq_decide.mpr ?_
      rw [sub_iff, show ([] : List Int) = nInt [] from rfl, dys_eq, List.filter_eq_nil_iff]
      constructor
      · intro h d hd
        have := h d (by rw [setOf_bit]; exact decide_eq_true hd)
        rw [setOf_bit] at this
        simpa using of_decide_eq_true this
      · intro h i hi
        rw [setOf_bit] at hi
        have := h i (of_decide_eq_true hi)
        rw [setOf_bit]
        simpa using this
    try dsimp only [gName]
    -- the two sums
    refine ⟨_, rfl, D, rfl, ⟨_, SqL.of hd4⟩, fun D4 hD4 => ?_⟩
    refine sum_days (K := K) (j := 9) (ds := days) rfl (by show 9 < 11; decide) hd4 dn (fun d h => by (have := dl d h; omega)) (by omega) hD4 (fun H1 ns s1 h1 e1 => ⟨D4, ns, rfl, h1, ?_⟩)
    rw [e1]
    clear h1 e1 hD4
    refine ⟨_, rfl, aO, rfl, ⟨_, SqL.of (s1 _ _ ho4)⟩, fun D4 hD4 => ?_⟩
    refine sum_days (K := K) (j := 9) (ds := oth) rfl (by show 9 < 11; decide) (s1 _ _ ho4) on (fun d h => by (have := ol d h; omega)) (by omega) hD4 (fun H2 ns s2 h2 e2 => ⟨D4, ns, rfl, h2, ?_⟩)
    rw [e2]
    clear h2 e2 hD4
    have s : Same H' H2 := s1.trans s2
    clear s1 s2 H1
    -- turned
    have hd := s _ _ hd4
    refine ⟨_, rfl, D, _, rfl, .inl (SqL.of hd), _, rfl, by rw [dys_len]; omega, by rw [dys_len]; omega, fun D5 hD5 => ?_⟩
    rw [Int.toNat_natCast]
    refine lc_mapR (ys := (dys days).reverse) (j := 10) hD5 (by rw [List.length_reverse]) (by rw [dys_len]; omega) (fun i y H3 hy s3 Q' q' => ?_) (fun H3 s3 h3 => ?_)
    · have hi : i < (dys days).length := by
        have := (List.getElem?_eq_some_iff.mp hy).1
        rw [List.length_reverse] at this
        exact this
      rw [List.getElem?_reverse hi] at hy
      refine ⟨_, rfl, _, rfl, D, _, rfl, .inl (SqL.of (s3 _ _ hd)), _, _, rfl, rfl, _, rfl, _, _, rfl, rfl, D, _, _, y, rfl, rfl, SqL.of (s3 _ _ hd), at_of (j := (dys days).length - 1 - i) (by show ((dys days).length : Int) - 1 - (0 + (i : Int)) = _; omega) hy, q' _ (Same.refl _)⟩
    have hd3 := s3 _ _ hd
    refine ⟨_, rfl, _, rfl, D, _, rfl, SqL.of hd3, fun p hp => ?_⟩
    refine ⟨D5, p, _, _, rfl, rfl, same_new hp _ _ h3, upd_same, ?_, fun t ht => ?_⟩
    · rw [List.length_reverse, cut1, dys_len, dys_len, List.length_take]
      exact Nat.le_trans (show _ ≤ 32 by omega) (by decide)
    rw [cut1] at ht
    rw [cut1, dys_rev, ← dys_app]
    generalize htur : days.reverse ++ days.take 1 = tur
    have tset : setOf tur = setOf days := by
      rw [← htur]
      refine setOf_ext fun i => ?_
      rw [List.mem_append, List.mem_reverse]
      exact ⟨fun h => h.elim (fun h => h) List.mem_of_mem_take, .inl⟩
    have tb : ∀ d ∈ tur, d < 1000 := fun d h => by
      rw [← htur] at h
      have : d ∈ days := (List.mem_append.mp h).elim (fun h => List.mem_reverse.mp h) List.mem_of_mem_take
      have := dl d this
      omega
    have s5 : Same H2 (upd (upd H3 p (.lst (dys (days.take 1)))) t (.lst (dys tur))) := (s3.trans (same_new hp)).trans (same_new ht)
    have ht5 : (upd (upd H3 p (.lst (dys (days.take 1)))) t (.lst (dys tur))) t = some (.lst (dys tur)) := upd_same
    generalize upd (upd H3 p (.lst (dys (days.take 1)))) t (.lst (dys tur)) = H5 at s5 ht5
    replace s := s.trans s5
    clear s5 htur hd hd3 h3 s3 hp ht hD5
    -- kept, told
    refine ⟨_, rfl, t, _, rfl, .inl (SqL.of ht5), fun kp hkp => ?_⟩
    have s6 := s.trans (same_new (o := .lst (dys tur)) hkp)
    have ht6 := same_new (o := .lst (dys tur)) hkp _ _ ht5
    have hk6 : (upd H5 kp (.lst (dys tur))) kp = some (.lst (dys tur)) := upd_same
    generalize upd H5 kp (.lst (dys tur)) = H6 at s6 ht6 hk6
    clear s ht5 hkp
    refine ⟨_, rfl, setOf days, rfl, m16, fun a H7 ha s7 h7 => ?_⟩
    rw [dset] at h7
    replace s7' := s6.trans s7
    have ht7 := s7 _ _ ht6
    have hk7 := s7 _ _ hk6
    clear s6 s7 ht6 hk6 ha
    -- the first if
    refine ⟨_, rfl, _, _, _, _, true, rfl, .ty "tuple", .base (.tup h7), kit_ty (by decide +kernel), true, rfl, iteF ?_⟩
    refine ⟨_, rfl, a, _, rfl, .inr (SqT.of h7), fun l2 hl2 => ⟨_, rfl, ne_ints (ns := nInt days) (ms := nInt days) (SqL.of upd_same) (SqL.of (same_new hl2 _ _ (s7' _ _ hd4))) ⟨_, rfl, iteNS rfl ?_⟩⟩⟩
    refine ⟨0, rfl, by decide, fun a2 H8 ha2 s8 h8 => ⟨Nat.zero_le _, fun p hp => ne_intsT (ns := []) (ms := []) (SqT.of (same_new hp _ _ h8)) (SqT.of upd_same) ⟨_, rfl, iteNS rfl ?_⟩⟩⟩
    have s9 : Same H7 (upd H8 p (.tup [])) := (same_new hl2).trans (s8.trans (same_new hp))
    generalize upd H8 p (.tup []) = H9 at s9
    have s9' := s7'.trans s9
    have ht9 := s9 _ _ ht7
    have hk9 := s9 _ _ hk7
    clear s9 s7' ht7 hk7 h7 s8 h8 ha2 hl2 hp
    -- the second if
    refine ⟨_, rfl, t, tur, rfl, ht9, tb, _, rfl, rfl, _, rfl, iteNS (by rw [tset]) ?_⟩
    refine ⟨_, rfl, D, _, rfl, .inl ⟨SqL.of (s9' _ _ hd4), fun l hl => ⟨l, days, rfl, upd_same, fun d h => by (have := dl d h; omega), _, rfl, rfl, _, rfl, iteNS rfl ?_⟩⟩⟩
    refine ⟨Nat.zero_le _, fun l2 hl2 => ⟨l2, [], rfl, upd_same, (by simp), rfl, _, rfl, iteNS rfl ?_⟩⟩
    have s10 := (same_new (o := .tup (dys days)) hl).trans (same_new (o := .lst []) hl2)
    refine ⟨_, rfl, _, rfl, ne_ints (ns := nInt tur) (ms := nInt tur) (SqL.of (s10 _ _ ht9)) (SqL.of (s10 _ _ hk9)) ⟨_, rfl, iteNS rfl ?_⟩⟩
    have s11 := s9'.trans s10
    generalize upd (upd H9 l (.tup (dys days))) l2 (.lst []) = H11 at s11
    clear s10 s9' ht9 hk9
    -- sizes
    refine ⟨_, rfl, setOf days, rfl, m16, fun H12 s12 => ⟨_, rfl, D, _, rfl, .inl (SqL.of (s12 _ _ (s11 _ _ hd4))), rfl, _, rfl, iteNS (by rw [dset, dys_len]) ?_⟩⟩
    refine ⟨_, rfl, setOf oth, rfl, w16, fun H13 s13 => ⟨_, rfl, aO, _, rfl, .inl (SqL.of (s13 _ _ (s12 _ _ (s11 _ _ ho4)))), rfl, _, rfl, iteNS (by rw [operm, dys_len]) ?_⟩⟩
    have s14 := (s11.trans s12).trans s13
    clear s11 s12 s13
    -- due
    refine ⟨_, rfl, D, rfl, ⟨_, SqL.of (s14 _ _ hd4)⟩, fun D6 hD6 => ?_⟩
    refine lc_notin (K := K) (j := 9) (e := 2) rfl (by show 9 < 11; decide) (by decide) rfl (s14 _ _ hd4) (s14 _ _ ho4) hD6 (by omega) (fun H15 s15 h15 => ⟨Nat.zero_le _, fun p hp => eq_ints (ms := []) (SqL.of (same_new hp _ _ h15)) (SqL.of upd_same) ?_⟩)
    have s16 := (s14.trans s15).trans (same_new (o := .lst []) hp)
    generalize upd H15 p (.lst []) = H16 at s16
    clear s14 s15 h15 hp hD6
    rw [← sub1]
    -- the third if
    refine ⟨_, rfl, _, rfl, setOf days, setOf oth, rfl, _, rfl, rfl, _, rfl, iteNS rfl ?_⟩
    refine ⟨_, rfl, _, rfl, setOf days, setOf days, rfl, _, _, rfl, rfl, _, rfl, iteNS (by rw [Nat.and_self]; exact decide_eq_true rfl) ?_⟩
    refine ⟨_, rfl, 0, setOf oth, rfl, _, _, rfl, rfl, _, rfl, iteNS (by rw [Nat.zero_and]; exact decide_eq_true rfl) ?_⟩
    -- the answer
    refine ⟨_, rfl, _, rfl, setOf oth, setOf days, rfl, _, rfl, aO, rfl, ⟨_, SqL.of (s16 _ _ ho4)⟩, fun D7 hD7 => ?_⟩
    refine lc_notin (K := K) (j := 9) (e := 1) rfl (by show 9 < 11; decide) (by decide) rfl (s16 _ _ ho4) (s16 _ _ hd4) hD7 (by omega) (fun H17 s17 h17 => ⟨Nat.zero_le _, fun p hp => eq_ints (ms := []) (SqL.of (same_new hp _ _ h17)) (SqL.of upd_same) ?_⟩)
    rw [← sub1]
    refine ⟨rfl, ?_⟩
    rw [decide_eq_true rfl]
    have s18 := (s16.trans s17).trans (same_new (o := .lst []) hp)
    exact k _ (hB4.same s18) (kk4.trans (But.of s18))
end
end My
set_option Elab.async false
set_option maxRecDepth 100000
set_option maxHeartbeats 4000000
namespace My
open PySem L2
def sp_law (K : PySem.W.Frag) : Sp := fun vs H Q _ => ∃ (a : Addr) (ns : List Int), vs = [.ref a] ∧ SqL K H a (ns.map V.int) ∧ ns.length ≤ 63 ∧ ∀ H', Q (.bl true) H'
structure BtL (mg : Str → Option Value) : Prop where
  range : mg "range" = none
  len : mg "len" = none
  max : mg "max" = none
  min : mg "min" = none
section
variable {P : Program} {w : World} {K : PySem.W.Frag} {mg : Str → Option Value} {base : Heap}
abbrev s_law : Stmt := top 27
abbrev N_law : List Str := ["_law_script", "_law_place", "_law_bag_here", "_law_turn"]
theorem sc_law : FnScope N_law ["_law_script"] (defScope s_law) := ⟨rfl, rfl, rfl, by decide +kernel, rfl, by decide +kernel, by decide +kernel⟩
theorem But.toSame {b : Addr} {H H1 H2 : Hp} (hb : H b = none) (s : Same H H1) (k : But b H1 H2) : Same H H2 := fun a o e => k a o (ne_of_none e hb) (s a o e)
theorem ok_law {f fB fR fW fD : Addr} {fd fdB fdR fdW fdD : FuncData} (F : Fun K "law" "law" s_law f fd) (T : BtL mg)
    (D_l_bag : Df K mg "_law_bag" ["_law_script", "_law_at"] fB fdB) (G_l_bag : FnOk P w K mg base CX0 2 fB fdB ["_law_script", "_law_at"] (sp_l_bag K))
    (D_l_ratios : Df K mg "_law_ratios" ["_law_bag_here"] fR fdR) (G_l_ratios : FnOk P w K mg base CX0 7 fR fdR ["_law_bag_here"] sp_check)
    (D_l_wholes : Df K mg "_law_wholes" ["_law_bag_here"] fW fdW) (G_l_wholes : FnOk P w K mg base CX0 7 fW fdW ["_law_bag_here"] sp_check)
    (D_l_day_sets : Df K mg "_law_day_sets" ["_law_bag_here"] fD fdD) (G_l_day_sets : FnOk P w K mg base CX0 7 fD fdD ["_law_bag_here"] sp_check) :
    FnOk P w K mg base CX0 9 f fd ["_law_script"] (sp_law K) := by
  refine F.ok sc_law (fun vs H Q E h => ?_) (fun cdv A outer s H vs Q E hr h => ?_)
  · obtain ⟨a, ns, rfl, _⟩ := h
    rfl
  · obtain ⟨a, ns, rfl, hS, hl, k⟩ := h
    refine ⟨_, (pss_cons (ps_for PassesOwn.never rfl (pi_range1 (by rfl) T.range (pa_cons (pe_callB (call_max2 rfl) (by rfl) T.max (by decide +kernel) (pa_cons pe_int (pa_cons (pe_callB (call_min2 rfl) (by rfl) T.min (by decide +kernel) (pa_cons pe_int (pa_cons (pe_callB call_len_seq (by rfl) T.len (by decide +kernel) (pa_cons (pv 0) pa_nil)) pa_nil))) pa_nil))) pa_nil)) (pg_name (i := 1) sc_law.nd rfl (Or.inl rfl)) (pss_cons (ps_set (i := 2) sc_law.nd rfl (Or.inl rfl) (pe_call G_l_bag (hr.mono (by decide)) (by rfl) D_l_bag.g D_l_bag.kp D_l_bag.b .nil pass0 (pa_cons (pv 0) (pa_cons (pv 1) pa_nil))))
        (pss_one (ps_for PassesOwn.never rfl (pi_range1 (by rfl) T.range (pa_cons pe_int pa_nil)) (pg_name (i := 3) sc_law.nd rfl (Or.inl rfl)) (pss_one (ps_if (PW.pt (pw_or (pt_not (pt_val (pe_call G_l_ratios (hr.mono (by decide)) (by rfl) D_l_ratios.g D_l_ratios.kp D_l_ratios.b .nil pass0 (pa_cons (pv 2) pa_nil)))) (pw_or (pt_not (pt_val (pe_call G_l_wholes (hr.mono (by decide)) (by rfl) D_l_wholes.g D_l_wholes.kp D_l_wholes.b .nil pass0 (pa_cons (pv 2) pa_nil)))) (pw_or1 (pt_not (pt_val (pe_call G_l_day_sets (hr.mono (by decide)) (by rfl) D_l_day_sets.g D_l_day_sets.kp D_l_day_sets.b .nil pass0 (pa_cons (pv 2) pa_nil)))))))) (pss_one (ps_ret pe_bl)) pss_nil))))))
        (pss_one (ps_ret pe_bl))), ?_⟩
    refine ⟨_, rfl, _, _, rfl, .inl hS, _, _, rfl, ?_⟩
    refine ⟨_, _, rfl, ?_⟩
    rw [List.length_map]
    refine ⟨_, rfl, ?_, ?_, ?_⟩
    · split <;> split <;> omega
    · split <;> split <;> omega
    generalize hn : (if (if ((ns.length : Nat) : Int) < 4 then ((ns.length : Nat) : Int) else 4) > 1 then (if ((ns.length : Nat) : Int) < 4 then ((ns.length : Nat) : Int) else 4) else 1 : Int).toNat = n
    have hn4 : n ≤ 4 := by
      rw [← hn]
      split <;> split <;> omega
    refine for_range (lo := 0) (n := n) (fun i σ H' => Same H H' ∧ ∃ u v w, σ = [some (.ref a), u, v, w]) ⟨Same.refl H, _, _, _, rfl⟩ ?_ ?_
    · rintro i σ H' hi ⟨s1, u, v, w, rfl⟩
      refine ⟨_, rfl, _, rfl, a, ns, _, rfl, s1.seq hS, hl, (by omega), (by omega), fun b H1 hb s2 hB => ?_⟩
      have nb : H b = none := s1.free hb
      have t1 : Same H H1 := s1.trans s2
      refine ⟨3, rfl, by decide, by decide, for_range (lo := 0) (n := 3) (fun i σ H' => Same H H' ∧ Bag H' b ∧ ∃ x y, σ = [some (.ref a), x, some (.ref b), y]) ⟨t1, hB, _, _, rfl⟩ ?_ ?_⟩
      · rintro i σ H2 hi ⟨t2, hB2, x, y, rfl⟩
        refine ⟨_, rfl, b, rfl, hB2, fun H3 hB3 k3 => ⟨true, rfl, iteF ?_⟩⟩
        refine ⟨_, rfl, b, rfl, hB3, fun H4 hB4 k4 => ⟨true, rfl, iteF ?_⟩⟩
        refine ⟨_, rfl, b, rfl, hB4, fun H5 hB5 k5 => ⟨true, rfl, iteF ?_⟩⟩
        exact ⟨But.toSame nb t2 ((k3.trans k4).trans k5), hB5, _, _, rfl⟩
      · rintro σ H2 ⟨t2, hB2, x, y, rfl⟩
        exact ⟨t2, _, _, _, rfl⟩
    · rintro σ H' ⟨s1, u, v, w, rfl⟩
      exact k H'
end
end My
set_option Elab.async false
set_option maxRecDepth 100000
set_option maxHeartbeats 4000000
namespace My
open PySem L2
theorem exm_same {K : PySem.W.Frag} {S : Addr} (h1 : PySem.W.subIn K (.ref S) (.type "BaseException") = some true) (h2 : PySem.W.isClsIn K S = true) (h3 : PySem.W.typeIn K (.ref S) = some (.type "type")) (h4 : PySem.W.subIn K (.ref S) (.ref S) = some true) :
    PySem.W.exmOne K (.ref S) (.ref S) = some true := by
  have e1 : (PySem.W.subIn K (.ref S) (.type "BaseException") == some true) = true := by rw [h1]; rfl
  have e2 : ((PySem.W.clsIn K S).isSome && PySem.W.typeIn K (.ref S) == some (.type "type")) = true := by
    have h5 : (PySem.W.clsIn K S).isSome = true := h2
    rw [h5, h3]; rfl
  show (if _ = true then (if _ = true then _ else none) else none) = some true
  rw [if_pos e1, if_pos e2]
  exact h4
theorem all_mk {P : Program} {w : World} {K : PySem.W.Frag} {h : Heap} {mg : Str → Option Value} {fa : Addr} (X : K.In h) (G : h.Ns mainGlobals mg) (hfa : mg "law" = some (.ref fa))
    {fX : Addr} {odX anX : Option Addr} {slX : Array (Option Value)} {ocX kVX dcX pmX cdX ctX : Value}
    (aX : PySem.W.nsIn K mainGlobals "is_number" = some (some (.ref fX)))
    (lX : K.lookup fX = some ⟨ocX, odX, .func (PySem.W.fnOf "is_number" "is_number" (defArgs s_is_number) (defBody s_is_number) (defScope s_is_number) .none kVX dcX pmX anX cdX ctX), slX⟩)
    (cX : PySem.W.codeIn K cdX "is_number" = true) (kX : PySem.W.keepIn K (.ref fX) = true)
    {f0 : Addr} {od0 an0 : Option Addr} {sl0 : Array (Option Value)} {oc0 kV0 dc0 pm0 cd0 ct0 : Value}
    {f1 : Addr} {od1 an1 : Option Addr} {sl1 : Array (Option Value)} {oc1 kV1 dc1 pm1 cd1 ct1 : Value}
    {f2 : Addr} {od2 an2 : Option Addr} {sl2 : Array (Option Value)} {oc2 kV2 dc2 pm2 cd2 ct2 : Value}
    {f3 : Addr} {od3 an3 : Option Addr} {sl3 : Array (Option Value)} {oc3 kV3 dc3 pm3 cd3 ct3 : Value}
    {f4 : Addr} {od4 an4 : Option Addr} {sl4 : Array (Option Value)} {oc4 kV4 dc4 pm4 cd4 ct4 : Value}
    {f5 : Addr} {od5 an5 : Option Addr} {sl5 : Array (Option Value)} {oc5 kV5 dc5 pm5 cd5 ct5 : Value}
    {f6 : Addr} {od6 an6 : Option Addr} {sl6 : Array (Option Value)} {oc6 kV6 dc6 pm6 cd6 ct6 : Value}
    {f7 : Addr} {od7 an7 : Option Addr} {sl7 : Array (Option Value)} {oc7 kV7 dc7 pm7 cd7 ct7 : Value}
    {f8 : Addr} {od8 an8 : Option Addr} {sl8 : Array (Option Value)} {oc8 kV8 dc8 pm8 cd8 ct8 : Value}
    {f9 : Addr} {od9 an9 : Option Addr} {sl9 : Array (Option Value)} {oc9 kV9 dc9 pm9 cd9 ct9 : Value}
    {f10 : Addr} {od10 an10 : Option Addr} {sl10 : Array (Option Value)} {oc10 kV10 dc10 pm10 cd10 ct10 : Value}
    {f11 : Addr} {od11 an11 : Option Addr} {sl11 : Array (Option Value)} {oc11 kV11 dc11 pm11 cd11 ct11 : Value}
    {f12 : Addr} {od12 an12 : Option Addr} {sl12 : Array (Option Value)} {oc12 kV12 dc12 pm12 cd12 ct12 : Value}
    {f13 : Addr} {od13 an13 : Option Addr} {sl13 : Array (Option Value)} {oc13 kV13 dc13 pm13 cd13 ct13 : Value}
    {f14 : Addr} {od14 an14 : Option Addr} {sl14 : Array (Option Value)} {oc14 kV14 dc14 pm14 cd14 ct14 : Value}
    {f15 : Addr} {od15 an15 : Option Addr} {sl15 : Array (Option Value)} {oc15 kV15 dc15 pm15 cd15 ct15 : Value}
    {f16 : Addr} {od16 an16 : Option Addr} {sl16 : Array (Option Value)} {oc16 kV16 dc16 pm16 cd16 ct16 : Value}
    {f17 : Addr} {od17 an17 : Option Addr} {sl17 : Array (Option Value)} {oc17 kV17 dc17 pm17 cd17 ct17 : Value}
    {f18 : Addr} {od18 an18 : Option Addr} {sl18 : Array (Option Value)} {oc18 kV18 dc18 pm18 cd18 ct18 : Value}
    {f19 : Addr} {od19 an19 : Option Addr} {sl19 : Array (Option Value)} {oc19 kV19 dc19 pm19 cd19 ct19 : Value}
    {C0 : Addr} {nm0 q0 : Str} {N0 : Addr} {bs0 : List Value} {sn0 : List Str} {sub0 : List Value} {ab0 : Bool} {col0 : Option Bool} {dd0 : Option Addr} {m00 m10 m20 m30 m50 : Option Value}
    {i0 : Addr} {iod0 ian0 : Option Addr} {isl0 : Array (Option Value)} {ioc0 ikV0 idc0 ipm0 icd0 ict0 : Value}
    {B0_0 : Addr}
    (a0 : PySem.W.nsIn K mainGlobals "is_whole" = some (some (.ref f0))) (l0 : K.lookup f0 = some ⟨oc0, od0, .func (PySem.W.fnOf "is_whole" "is_whole" (defArgs s_is_whole) (defBody s_is_whole) (defScope s_is_whole) .none kV0 dc0 pm0 an0 cd0 ct0), sl0⟩) (c0 : PySem.W.codeIn K cd0 "is_whole" = true) (k0 : PySem.W.keepIn K (.ref f0) = true)
    (a1 : PySem.W.nsIn K mainGlobals "ratio" = some (some (.ref f1))) (l1 : K.lookup f1 = some ⟨oc1, od1, .func (PySem.W.fnOf "ratio" "ratio" (defArgs s_ratio) (defBody s_ratio) (defScope s_ratio) .none kV1 dc1 pm1 an1 cd1 ct1), sl1⟩) (c1 : PySem.W.codeIn K cd1 "ratio" = true) (k1 : PySem.W.keepIn K (.ref f1) = true)
    (a2 : PySem.W.nsIn K mainGlobals "compare_ratios" = some (some (.ref f2))) (l2 : K.lookup f2 = some ⟨oc2, od2, .func (PySem.W.fnOf "compare_ratios" "compare_ratios" (defArgs s_compare_ratios) (defBody s_compare_ratios) (defScope s_compare_ratios) .none kV2 dc2 pm2 an2 cd2 ct2), sl2⟩) (c2 : PySem.W.codeIn K cd2 "compare_ratios" = true) (k2 : PySem.W.keepIn K (.ref f2) = true)
    (a3 : PySem.W.nsIn K mainGlobals "ratio_sum" = some (some (.ref f3))) (l3 : K.lookup f3 = some ⟨oc3, od3, .func (PySem.W.fnOf "ratio_sum" "ratio_sum" (defArgs s_ratio_sum) (defBody s_ratio_sum) (defScope s_ratio_sum) .none kV3 dc3 pm3 an3 cd3 ct3), sl3⟩) (c3 : PySem.W.codeIn K cd3 "ratio_sum" = true) (k3 : PySem.W.keepIn K (.ref f3) = true)
    (a4 : PySem.W.nsIn K mainGlobals "ratio_product" = some (some (.ref f4))) (l4 : K.lookup f4 = some ⟨oc4, od4, .func (PySem.W.fnOf "ratio_product" "ratio_product" (defArgs s_ratio_product) (defBody s_ratio_product) (defScope s_ratio_product) .none kV4 dc4 pm4 an4 cd4 ct4), sl4⟩) (c4 : PySem.W.codeIn K cd4 "ratio_product" = true) (k4 : PySem.W.keepIn K (.ref f4) = true)
    (a5 : PySem.W.nsIn K mainGlobals "days_in" = some (some (.ref f5))) (l5 : K.lookup f5 = some ⟨oc5, od5, .func (PySem.W.fnOf "days_in" "days_in" (defArgs s_days_in) (defBody s_days_in) (defScope s_days_in) .none kV5 dc5 pm5 an5 cd5 ct5), sl5⟩) (c5 : PySem.W.codeIn K cd5 "days_in" = true) (k5 : PySem.W.keepIn K (.ref f5) = true)
    (a6 : PySem.W.nsIn K mainGlobals "set_of" = some (some (.ref f6))) (l6 : K.lookup f6 = some ⟨oc6, od6, .func (PySem.W.fnOf "set_of" "set_of" (defArgs s_set_of) (defBody s_set_of) (defScope s_set_of) .none kV6 dc6 pm6 an6 cd6 ct6), sl6⟩) (c6 : PySem.W.codeIn K cd6 "set_of" = true) (k6 : PySem.W.keepIn K (.ref f6) = true)
    (a7 : PySem.W.nsIn K mainGlobals "size" = some (some (.ref f7))) (l7 : K.lookup f7 = some ⟨oc7, od7, .func (PySem.W.fnOf "size" "size" (defArgs s_size) (defBody s_size) (defScope s_size) .none kV7 dc7 pm7 an7 cd7 ct7), sl7⟩) (c7 : PySem.W.codeIn K cd7 "size" = true) (k7 : PySem.W.keepIn K (.ref f7) = true)
    (a8 : PySem.W.nsIn K mainGlobals "within" = some (some (.ref f8))) (l8 : K.lookup f8 = some ⟨oc8, od8, .func (PySem.W.fnOf "within" "within" (defArgs s_within) (defBody s_within) (defScope s_within) .none kV8 dc8 pm8 an8 cd8 ct8), sl8⟩) (c8 : PySem.W.codeIn K cd8 "within" = true) (k8 : PySem.W.keepIn K (.ref f8) = true)
    (a9 : PySem.W.nsIn K mainGlobals "_law_bag" = some (some (.ref f9))) (l9 : K.lookup f9 = some ⟨oc9, od9, .func (PySem.W.fnOf "_law_bag" "_law_bag" (defArgs s_l_bag) (defBody s_l_bag) (defScope s_l_bag) .none kV9 dc9 pm9 an9 cd9 ct9), sl9⟩) (c9 : PySem.W.codeIn K cd9 "_law_bag" = true) (k9 : PySem.W.keepIn K (.ref f9) = true)
    (a10 : PySem.W.nsIn K mainGlobals "_law_take" = some (some (.ref f10))) (l10 : K.lookup f10 = some ⟨oc10, od10, .func (PySem.W.fnOf "_law_take" "_law_take" (defArgs s_l_take) (defBody s_l_take) (defScope s_l_take) .none kV10 dc10 pm10 an10 cd10 ct10), sl10⟩) (c10 : PySem.W.codeIn K cd10 "_law_take" = true) (k10 : PySem.W.keepIn K (.ref f10) = true)
    (a11 : PySem.W.nsIn K mainGlobals "_law_of" = some (some (.ref f11))) (l11 : K.lookup f11 = some ⟨oc11, od11, .func (PySem.W.fnOf "_law_of" "_law_of" (defArgs s_l_of) (defBody s_l_of) (defScope s_l_of) .none kV11 dc11 pm11 an11 cd11 ct11), sl11⟩) (c11 : PySem.W.codeIn K cd11 "_law_of" = true) (k11 : PySem.W.keepIn K (.ref f11) = true)
    (a12 : PySem.W.nsIn K mainGlobals "_law_number" = some (some (.ref f12))) (l12 : K.lookup f12 = some ⟨oc12, od12, .func (PySem.W.fnOf "_law_number" "_law_number" (defArgs s_l_number) (defBody s_l_number) (defScope s_l_number) .none kV12 dc12 pm12 an12 cd12 ct12), sl12⟩) (c12 : PySem.W.codeIn K cd12 "_law_number" = true) (k12 : PySem.W.keepIn K (.ref f12) = true)
    (a13 : PySem.W.nsIn K mainGlobals "_law_divisor" = some (some (.ref f13))) (l13 : K.lookup f13 = some ⟨oc13, od13, .func (PySem.W.fnOf "_law_divisor" "_law_divisor" (defArgs s_l_divisor) (defBody s_l_divisor) (defScope s_l_divisor) .none kV13 dc13 pm13 an13 cd13 ct13), sl13⟩) (c13 : PySem.W.codeIn K cd13 "_law_divisor" = true) (k13 : PySem.W.keepIn K (.ref f13) = true)
    (a14 : PySem.W.nsIn K mainGlobals "_law_is_ratio" = some (some (.ref f14))) (l14 : K.lookup f14 = some ⟨oc14, od14, .func (PySem.W.fnOf "_law_is_ratio" "_law_is_ratio" (defArgs s_l_is_ratio) (defBody s_l_is_ratio) (defScope s_l_is_ratio) .none kV14 dc14 pm14 an14 cd14 ct14), sl14⟩) (c14 : PySem.W.codeIn K cd14 "_law_is_ratio" = true) (k14 : PySem.W.keepIn K (.ref f14) = true)
    (a15 : PySem.W.nsIn K mainGlobals "_law_refused" = some (some (.ref f15))) (l15 : K.lookup f15 = some ⟨oc15, od15, .func (PySem.W.fnOf "_law_refused" "_law_refused" (defArgs s_l_refused) (defBody s_l_refused) (defScope s_l_refused) .none kV15 dc15 pm15 an15 cd15 ct15), sl15⟩) (c15 : PySem.W.codeIn K cd15 "_law_refused" = true) (k15 : PySem.W.keepIn K (.ref f15) = true)
    (a16 : PySem.W.nsIn K mainGlobals "_law_ratios" = some (some (.ref f16))) (l16 : K.lookup f16 = some ⟨oc16, od16, .func (PySem.W.fnOf "_law_ratios" "_law_ratios" (defArgs s_l_ratios) (defBody s_l_ratios) (defScope s_l_ratios) .none kV16 dc16 pm16 an16 cd16 ct16), sl16⟩) (c16 : PySem.W.codeIn K cd16 "_law_ratios" = true) (k16 : PySem.W.keepIn K (.ref f16) = true)
    (a17 : PySem.W.nsIn K mainGlobals "_law_wholes" = some (some (.ref f17))) (l17 : K.lookup f17 = some ⟨oc17, od17, .func (PySem.W.fnOf "_law_wholes" "_law_wholes" (defArgs s_l_wholes) (defBody s_l_wholes) (defScope s_l_wholes) .none kV17 dc17 pm17 an17 cd17 ct17), sl17⟩) (c17 : PySem.W.codeIn K cd17 "_law_wholes" = true) (k17 : PySem.W.keepIn K (.ref f17) = true)
    (a18 : PySem.W.nsIn K mainGlobals "_law_day_sets" = some (some (.ref f18))) (l18 : K.lookup f18 = some ⟨oc18, od18, .func (PySem.W.fnOf "_law_day_sets" "_law_day_sets" (defArgs s_l_day_sets) (defBody s_l_day_sets) (defScope s_l_day_sets) .none kV18 dc18 pm18 an18 cd18 ct18), sl18⟩) (c18 : PySem.W.codeIn K cd18 "_law_day_sets" = true) (k18 : PySem.W.keepIn K (.ref f18) = true)
    (a19 : PySem.W.nsIn K mainGlobals "law" = some (some (.ref f19))) (l19 : K.lookup f19 = some ⟨oc19, od19, .func (PySem.W.fnOf "law" "law" (defArgs s_law) (defBody s_law) (defScope s_law) .none kV19 dc19 pm19 an19 cd19 ct19), sl19⟩) (c19 : PySem.W.codeIn K cd19 "law" = true) (k19 : PySem.W.keepIn K (.ref f19) = true)
    (ea0 : PySem.W.nsIn K mainGlobals "BadRatio" = some (some (.ref C0))) (ex0 : K.lookup C0 = some (excClassObj nm0 q0 C0 N0 bs0 [.ref B0_0, .type "ValueError", .type "Exception", .type "BaseException", .type "object"] true sn0 sub0 ab0 col0 dd0 m00 m10 m20 m30 m50 "ValueError.__new__"))
    (es0 : PySem.W.findIn K (.ref C0) "__setattr__" = some (some (.builtin "object.__setattr__"))) (ei0 : PySem.W.findIn K (.ref C0) "__init__" = some (some (.ref i0))) (et0 : PySem.W.typeIn K (.ref i0) = some (.type "function"))
    (el0 : K.lookup i0 = some ⟨ioc0, iod0, .func (PySem.W.fnOf "__init__" "BadRatio.__init__" (defArgs s_BadRatio_init) (defBody s_BadRatio_init) (defScope s_BadRatio_init) .none ikV0 idc0 ipm0 ian0 icd0 ict0), isl0⟩) (ec0 : PySem.W.codeIn K icd0 "BadRatio.__init__" = true) (eik0 : PySem.W.keepIn K (.ref i0) = true)
    (ek0 : PySem.W.keepIn K (.ref C0) = true) (ee0 : PySem.W.subIn K (.ref C0) (.type "BaseException") = some true) (ety0 : PySem.W.typeIn K (.ref C0) = some (.type "type")) (eic0 : PySem.W.isClsIn K C0 = true) (esu0 : PySem.W.subIn K (.ref C0) (.ref C0) = some true)
    (z_len : PySem.W.nsIn K mainGlobals "len" = some none)
    (z_abs : PySem.W.nsIn K mainGlobals "abs" = some none)
    (z_int : PySem.W.nsIn K mainGlobals "int" = some none)
    (z_enumerate : PySem.W.nsIn K mainGlobals "enumerate" = some none)
    (z_range : PySem.W.nsIn K mainGlobals "range" = some none)
    (z_isinstance : PySem.W.nsIn K mainGlobals "isinstance" = some none)
    (z_bool : PySem.W.nsIn K mainGlobals "bool" = some none)
    (z_tuple : PySem.W.nsIn K mainGlobals "tuple" = some none)
    (z_sum : PySem.W.nsIn K mainGlobals "sum" = some none)
    (z_list : PySem.W.nsIn K mainGlobals "list" = some none)
    (z_max : PySem.W.nsIn K mainGlobals "max" = some none)
    (z_min : PySem.W.nsIn K mainGlobals "min" = some none)
    (g_gcd : PySem.W.nsIn K mainGlobals "gcd" = some (some (.builtin "math.gcd"))) :
    ∃ fd : FuncData, (∀ (s : Shared) (v : Value), BindsTo s fd ⟨[v], []⟩ [("_law_script", v)]) ∧ ∀ base : Heap, K.In base → base.Ns mainGlobals mg → FnOk P w K mg base CX0 9 fa fd ["_law_script"] (sp_law K) := by
  have e := hfa.symm.trans (PySem.W.mg_of X G a19)
  cases e
  have F_is_number := fun_mk (st := s_is_number) lX cX kX
  have D_is_number : Df K mg "is_number" ["thing"] fX _ := ⟨PySem.W.mg_of X G aX, kX, F_is_number.binds (ps := ["thing"]) fun _ _ _ _ _ _ us hl => match us, hl with | [_], _ => rfl⟩
  have F_is_whole := fun_mk (st := s_is_whole) l0 c0 k0
  have D_is_whole : Df K mg "is_whole" ["thing", "low", "high"] f0 _ := ⟨PySem.W.mg_of X G a0, k0, F_is_whole.binds (ps := ["thing", "low", "high"]) fun _ _ _ _ _ _ us hl => match us, hl with | [_, _, _], _ => rfl⟩
  have F_ratio := fun_mk (st := s_ratio) l1 c1 k1
  have D_ratio : Df K mg "ratio" ["top", "bottom"] f1 _ := ⟨PySem.W.mg_of X G a1, k1, F_ratio.binds (ps := ["top", "bottom"]) fun _ _ _ _ _ _ us hl => match us, hl with | [_, _], _ => rfl⟩
  have F_compare_ratios := fun_mk (st := s_compare_ratios) l2 c2 k2
  have D_compare_ratios : Df K mg "compare_ratios" ["one", "other"] f2 _ := ⟨PySem.W.mg_of X G a2, k2, F_compare_ratios.binds (ps := ["one", "other"]) fun _ _ _ _ _ _ us hl => match us, hl with | [_, _], _ => rfl⟩
  have F_ratio_sum := fun_mk (st := s_ratio_sum) l3 c3 k3
  have D_ratio_sum : Df K mg "ratio_sum" ["one", "other"] f3 _ := ⟨PySem.W.mg_of X G a3, k3, F_ratio_sum.binds (ps := ["one", "other"]) fun _ _ _ _ _ _ us hl => match us, hl with | [_, _], _ => rfl⟩
  have F_ratio_product := fun_mk (st := s_ratio_product) l4 c4 k4
  have D_ratio_product : Df K mg "ratio_product" ["one", "other"] f4 _ := ⟨PySem.W.mg_of X G a4, k4, F_ratio_product.binds (ps := ["one", "other"]) fun _ _ _ _ _ _ us hl => match us, hl with | [_, _], _ => rfl⟩
  have F_days_in := fun_mk (st := s_days_in) l5 c5 k5
  have D_days_in : Df K mg "days_in" ["day_set"] f5 _ := ⟨PySem.W.mg_of X G a5, k5, F_days_in.binds (ps := ["day_set"]) fun _ _ _ _ _ _ us hl => match us, hl with | [_], _ => rfl⟩
  have F_set_of := fun_mk (st := s_set_of) l6 c6 k6
  have D_set_of : Df K mg "set_of" ["days"] f6 _ := ⟨PySem.W.mg_of X G a6, k6, F_set_of.binds (ps := ["days"]) fun _ _ _ _ _ _ us hl => match us, hl with | [_], _ => rfl⟩
  have F_size := fun_mk (st := s_size) l7 c7 k7
  have D_size : Df K mg "size" ["day_set"] f7 _ := ⟨PySem.W.mg_of X G a7, k7, F_size.binds (ps := ["day_set"]) fun _ _ _ _ _ _ us hl => match us, hl with | [_], _ => rfl⟩
  have F_within := fun_mk (st := s_within) l8 c8 k8
  have D_within : Df K mg "within" ["one", "other"] f8 _ := ⟨PySem.W.mg_of X G a8, k8, F_within.binds (ps := ["one", "other"]) fun _ _ _ _ _ _ us hl => match us, hl with | [_, _], _ => rfl⟩
  have F_l_bag := fun_mk (st := s_l_bag) l9 c9 k9
  have D_l_bag : Df K mg "_law_bag" ["_law_script", "_law_at"] f9 _ := ⟨PySem.W.mg_of X G a9, k9, F_l_bag.binds (ps := ["_law_script", "_law_at"]) fun _ _ _ _ _ _ us hl => match us, hl with | [_, _], _ => rfl⟩
  have F_l_take := fun_mk (st := s_l_take) l10 c10 k10
  have D_l_take : Df K mg "_law_take" ["_law_bag_here", "_law_many"] f10 _ := ⟨PySem.W.mg_of X G a10, k10, F_l_take.binds (ps := ["_law_bag_here", "_law_many"]) fun _ _ _ _ _ _ us hl => match us, hl with | [_, _], _ => rfl⟩
  have F_l_of := fun_mk (st := s_l_of) l11 c11 k11
  have D_l_of : Df K mg "_law_of" ["_law_bag_here", "_law_some"] f11 _ := ⟨PySem.W.mg_of X G a11, k11, F_l_of.binds (ps := ["_law_bag_here", "_law_some"]) fun _ _ _ _ _ _ us hl => match us, hl with | [_, _], _ => rfl⟩
  have F_l_number := fun_mk (st := s_l_number) l12 c12 k12
  have D_l_number : Df K mg "_law_number" ["_law_bag_here"] f12 _ := ⟨PySem.W.mg_of X G a12, k12, F_l_number.binds (ps := ["_law_bag_here"]) fun _ _ _ _ _ _ us hl => match us, hl with | [_], _ => rfl⟩
  have F_l_divisor := fun_mk (st := s_l_divisor) l13 c13 k13
  have D_l_divisor : Df K mg "_law_divisor" ["_law_one", "_law_other"] f13 _ := ⟨PySem.W.mg_of X G a13, k13, F_l_divisor.binds (ps := ["_law_one", "_law_other"]) fun _ _ _ _ _ _ us hl => match us, hl with | [_, _], _ => rfl⟩
  have F_l_is_ratio := fun_mk (st := s_l_is_ratio) l14 c14 k14
  have D_l_is_ratio : Df K mg "_law_is_ratio" ["_law_told", "_law_top", "_law_bottom"] f14 _ := ⟨PySem.W.mg_of X G a14, k14, F_l_is_ratio.binds (ps := ["_law_told", "_law_top", "_law_bottom"]) fun _ _ _ _ _ _ us hl => match us, hl with | [_, _, _], _ => rfl⟩
  have F_l_refused := fun_mk (st := s_l_refused) l15 c15 k15
  have D_l_refused : Df K mg "_law_refused" ["_law_top"] f15 _ := ⟨PySem.W.mg_of X G a15, k15, F_l_refused.binds (ps := ["_law_top"]) fun _ _ _ _ _ _ us hl => match us, hl with | [_], _ => rfl⟩
  have F_l_ratios := fun_mk (st := s_l_ratios) l16 c16 k16
  have D_l_ratios : Df K mg "_law_ratios" ["_law_bag_here"] f16 _ := ⟨PySem.W.mg_of X G a16, k16, F_l_ratios.binds (ps := ["_law_bag_here"]) fun _ _ _ _ _ _ us hl => match us, hl with | [_], _ => rfl⟩
  have F_l_wholes := fun_mk (st := s_l_wholes) l17 c17 k17
  have D_l_wholes : Df K mg "_law_wholes" ["_law_bag_here"] f17 _ := ⟨PySem.W.mg_of X G a17, k17, F_l_wholes.binds (ps := ["_law_bag_here"]) fun _ _ _ _ _ _ us hl => match us, hl with | [_], _ => rfl⟩
  have F_l_day_sets := fun_mk (st := s_l_day_sets) l18 c18 k18
  have D_l_day_sets : Df K mg "_law_day_sets" ["_law_bag_here"] f18 _ := ⟨PySem.W.mg_of X G a18, k18, F_l_day_sets.binds (ps := ["_law_bag_here"]) fun _ _ _ _ _ _ us hl => match us, hl with | [_], _ => rfl⟩
  have F_law := fun_mk (st := s_law) l19 c19 k19
  have F_BadRatio_init := fun_mk (st := s_BadRatio_init) el0 ec0 eik0
  have E_BadRatio : Err K mg "BadRatio" C0 i0 _ := ⟨PySem.W.mg_of X G ea0, ⟨⟨_, _, _, _, _, _, _, _, _, _, _, _, _, _, _, ex0, by rfl⟩, es0, ee0, ety0, ek0⟩, ei0, et0, F_BadRatio_init.binds (ps := ["self"]) fun _ _ _ _ _ _ us hl => (match us, hl with | [_], _ => rfl), exm_same ee0 eic0 ety0 esu0⟩
  have z := fun {x : Str} (e : PySem.W.nsIn K mainGlobals x = some none) => PySem.W.mg_none_of X G e
  have T1 : Bt mg := ⟨z z_len, z z_abs, z z_int, z z_enumerate, z z_range⟩
  have T2 : BtR mg := ⟨z z_isinstance, z z_int, z z_bool, z z_tuple, z z_len, PySem.W.mg_of X G g_gcd⟩
  have T3 : BtD mg := ⟨z z_tuple, z z_range, z z_len⟩
  have T4 : BtS mg := ⟨z z_range, z z_len, z z_sum, z z_list, z z_tuple, z z_isinstance⟩
  have T5 : BtL mg := ⟨z z_range, z z_len, z z_max, z z_min⟩
  refine ⟨PySem.W.fnOf "law" "law" (defArgs s_law) (defBody s_law) (defScope s_law) .none kV19 dc19 pm19 an19 cd19 ct19, fun s v => .of_eq rfl, fun base _ _ => ?_⟩
  have G_take := ok_l_take (P := P) (w := w) (base := base) F_l_take T1
  have G_of := ok_l_of F_l_of T1 D_l_take G_take
  have G_number := ok_l_number F_l_number D_l_take D_l_of G_take G_of
  have G_ratio := ok_ratio (P := P) (w := w) (base := base) F_ratio T2 D_ratio F_BadRatio_init E_BadRatio
  have G_isr := ok_l_is_ratio F_l_is_ratio T2 D_l_divisor (ok_l_divisor (P := P) (w := w) (base := base) F_l_divisor T1)
  have G_ratios := ok_l_ratios F_l_ratios D_l_number G_number D_l_take G_take D_ratio G_ratio D_l_is_ratio G_isr D_l_refused (ok_l_refused F_l_refused E_BadRatio D_ratio G_ratio) D_ratio_sum (ok_ratio_sum F_ratio_sum D_ratio G_ratio) D_ratio_product (ok_ratio_product F_ratio_product D_ratio G_ratio) D_compare_ratios (ok_compare_ratios F_compare_ratios)
  have G_wholes := ok_l_wholes F_l_wholes D_l_number G_number D_l_take G_take D_l_of G_of D_is_whole (ok_is_whole F_is_whole D_is_number (ok_is_number F_is_number T2))
  have G_days := ok_days_in (P := P) (w := w) (base := base) F_days_in T3
  have G_sets := ok_l_day_sets F_l_day_sets T4 D_l_take G_take D_l_of G_of D_days_in G_days D_set_of (ok_set_of_l F_set_of) (ok_set_of_t F_set_of) D_size (ok_size F_size T3 D_days_in G_days) D_within (ok_within F_within)
  exact ok_law F_law T5 D_l_bag (ok_l_bag F_l_bag T1) D_l_ratios G_ratios D_l_wholes G_wholes D_l_day_sets G_sets
theorem walk {l : PySem.W.OpenLaw} {q : Program} {loose : List Str} {XP : (Str → Option Value) → Heap → Prop} {YP : World → Heap → Prop} {d : DefRec} {K : Params → PySem.W.Frag} (hn : l.most = some 63) (hdf : d.params.defaults = [])
    (hY : ∀ (w : World) (h : Heap), YP w h → (K w.params).In h)
    (F : ∀ (w : World) (mg : Str → Option Value) (fa : Addr) (h : Heap), (K w.params).In h → h.Ns mainGlobals mg → mg d.name = some (.ref fa) →
      ∃ fd : FuncData, (∀ (s : Shared) (u : Value), BindsTo s fd ⟨[u], []⟩ [("_law_script", u)]) ∧ ∀ base : Heap, (K w.params).In base → base.Ns mainGlobals mg → FnOk l.prog w (K w.params) mg base CX0 9 fa fd ["_law_script"] (sp_law (K w.params))) :
    PySem.W.WalkO q loose XP YP l.row.toRowW d [] (fun f vs => PySem.call f vs) :=
  L2.walk_of (n := 63) (k := 9) (x := "_law_script") (CX := fun _ => CX0) (sp := fun w => sp_law (K w.params)) hn (by decide) hdf ⟨rfl, by decide, by decide⟩ hY F (fun _ _ a ns hl _ hS => ⟨a, ns, rfl, hS, hl, fun _ => rfl⟩) fun _ _ _ _ _ z => z
end My
open PySem PySem.W PyProof.Rows
set_option maxRecDepth 100000 in
set_option maxHeartbeats 0 in
theorem PySem.Challenge.cw_usualdays_k01_ratios_and_day_sets_holds : PySem.Challenge.rw_usualdays_k01_ratios_and_day_sets.Holds := by
  w_on; o_law; k_head; (case hw => w_witness2)
  k_fill
  refine My.walk (l := PySem.Challenge.rw_usualdays_k01_ratios_and_day_sets) rfl rfl (fun w h Y => PySem.W.kIn_of Y) ?F
  case F =>
    intro w mg fa h KX G hmg
    refine' My.all_mk KX G hmg ?aX ?lX ?cX ?kX ?a0 ?l0 ?c0 ?k0 ?a1 ?l1 ?c1 ?k1 ?a2 ?l2 ?c2 ?k2 ?a3 ?l3 ?c3 ?k3 ?a4 ?l4 ?c4 ?k4 ?a5 ?l5 ?c5 ?k5 ?a6 ?l6 ?c6 ?k6 ?a7 ?l7 ?c7 ?k7 ?a8 ?l8 ?c8 ?k8 ?a9 ?l9 ?c9 ?k9 ?a10 ?l10 ?c10 ?k10 ?a11 ?l11 ?c11 ?k11 ?a12 ?l12 ?c12 ?k12 ?a13 ?l13 ?c13 ?k13 ?a14 ?l14 ?c14 ?k14 ?a15 ?l15 ?c15 ?k15 ?a16 ?l16 ?c16 ?k16 ?a17 ?l17 ?c17 ?k17 ?a18 ?l18 ?c18 ?k18 ?a19 ?l19 ?c19 ?k19 ?ea0 ?ex0 ?es0 ?ei0 ?et0 ?el0 ?ec0 ?eik0 ?ek0 ?ee0 ?ety0 ?eic0 ?esu0 ?z_len ?z_abs ?z_int ?z_enumerate ?z_range ?z_isinstance ?z_bool ?z_tuple ?z_sum ?z_list ?z_max ?z_min ?g_gcd
    (case aX => k_is)
    (case lX => k_is)
    (case cX => k_is)
    (case kX => k_is)
    (case a0 => k_is)
    (case l0 => k_is)
    (case c0 => k_is)
    (case k0 => k_is)
    (case a1 => k_is)
    (case l1 => k_is)
    (case c1 => k_is)
    (case k1 => k_is)
    (case a2 => k_is)
    (case l2 => k_is)
    (case c2 => k_is)
    (case k2 => k_is)
    (case a3 => k_is)
    (case l3 => k_is)
    (case c3 => k_is)
    (case k3 => k_is)
    (case a4 => k_is)
    (case l4 => k_is)
    (case c4 => k_is)
    (case k4 => k_is)
    (case a5 => k_is)
    (case l5 => k_is)
    (case c5 => k_is)
    (case k5 => k_is)
    (case a6 => k_is)
    (case l6 => k_is)
    (case c6 => k_is)
    (case k6 => k_is)
    (case a7 => k_is)
    (case l7 => k_is)
    (case c7 => k_is)
    (case k7 => k_is)
    (case a8 => k_is)
    (case l8 => k_is)
    (case c8 => k_is)
    (case k8 => k_is)
    (case a9 => k_is)
    (case l9 => k_is)
    (case c9 => k_is)
    (case k9 => k_is)
    (case a10 => k_is)
    (case l10 => k_is)
    (case c10 => k_is)
    (case k10 => k_is)
    (case a11 => k_is)
    (case l11 => k_is)
    (case c11 => k_is)
    (case k11 => k_is)
    (case a12 => k_is)
    (case l12 => k_is)
    (case c12 => k_is)
    (case k12 => k_is)
    (case a13 => k_is)
    (case l13 => k_is)
    (case c13 => k_is)
    (case k13 => k_is)
    (case a14 => k_is)
    (case l14 => k_is)
    (case c14 => k_is)
    (case k14 => k_is)
    (case a15 => k_is)
    (case l15 => k_is)
    (case c15 => k_is)
    (case k15 => k_is)
    (case a16 => k_is)
    (case l16 => k_is)
    (case c16 => k_is)
    (case k16 => k_is)
    (case a17 => k_is)
    (case l17 => k_is)
    (case c17 => k_is)
    (case k17 => k_is)
    (case a18 => k_is)
    (case l18 => k_is)
    (case c18 => k_is)
    (case k18 => k_is)
    (case a19 => k_is)
    (case l19 => k_is)
    (case c19 => k_is)
    (case k19 => k_is)
    (case ea0 => k_is)
    (case ex0 => k_is)
    (case es0 => k_is)
    (case ei0 => k_is)
    (case et0 => k_is)
    (case el0 => k_is)
    (case ec0 => k_is)
    (case eik0 => k_is)
    (case ek0 => k_is)
    (case ee0 => k_is)
    (case ety0 => k_is)
    (case eic0 => k_is)
    (case esu0 => first | rfl | k_is)
    (case z_len => k_is)
    (case z_abs => k_is)
    (case z_int => k_is)
    (case z_enumerate => k_is)
    (case z_range => k_is)
    (case z_isinstance => k_is)
    (case z_bool => k_is)
    (case z_tuple => k_is)
    (case z_sum => k_is)
    (case z_list => k_is)
    (case z_max => k_is)
    (case z_min => k_is)
    (case g_gcd => k_is)
