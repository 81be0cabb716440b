import PyProof.Rows.All
import Wide.All
import OpenK.AllK
import Wide.FinOn
import KE.OsRunLaw
import HandS.Words
import HandS.ForMost
import HandS.ForExc
import HandS.Wide
import HandS.WideBits
import HandS.IsInst
import HandS.Style
import HandS.Steps
import HandS.Zip
import HandS.ExcInit
import HandS.ExcField
import HandS.SlotsOwn
import HandS.ClsMeth
import HandS.MakeKw
import HandS.CallLocal
import HandS.IterVal
import KE.GoesMore
import HandS.SortKw
import KE.DatumOrd
import HandS.SetFor
import HandS.Strs
import HandS.DictComp
import HandS.Property
import KE.KCallOwn
import HandS.Defaults
import HandS.Walk
import HandS.Text
import HandS.OwnIter
import HandS.Deep
import KE.KExcIs
import HandS.ExcIs
import HandS.TryMany
import HandS.TryOnly
import HandS.CallSlots
import KE.DatumIndex
import HandS.More
import KE.IntBitsLaws
import HandS.Star
import HandS.TupAny
import HandS.Conv
import HandS.SetBool
import HandS.OwnEq
import PyProof.NeKinds
import HandS.Gcd
import HandS.Flt
import HandS.TupMul
import PyProof.InstNe
import HandS.SortInts
import KE.KIsAll
import KE.SortData
import PySem.Challenge.RW_usualdays_k79_least_meeting_lots
set_option Elab.async false
set_option maxRecDepth 100000
set_option maxHeartbeats 2000000
set_option linter.all false
set_option autoImplicit false
/-! the head of a law's row by a few runs in the kernel: the top is cut at its statements, the states between are written out by the program that prints this text -/
namespace Hd
open PySem PySem.W HeadRun L2
section
variable (st : SharedT → Thread → Option (SharedT × Thread)) (n0 : Nat) (ann : Option Value) (b : Nat)
/-- a part of the top, to its end -/
def sgF : Nat → SharedT → Thread → Option (Flow × SharedT × Code × Pos)
  | 0, _, _ => none
  | m + 1, s, t => match endAt b t with
    | some f => some (f, s, t.code, t.pos)
    | none => match stepOk n0 ann t with
      | false => none
      | true => match st s t with
        | some (s', t') => frS s' fun s' => sgF m s' t'
        | none => none
end
theorem sgF_ok {tb : String → Option Builtin} {p : Program} {w : World} {n0 : Nat} {ann : Option Value} {b : Nat} : ∀ {m : Nat} {s s' : SharedT} {t : Thread} {f : Flow} {c : Code} {q : Pos},
    sgF (stepT (denote tb) p w) n0 ann b m s t = some (f, s', c, q) → segRun tb p w n0 ann b m s.abs t = some (f, s'.abs, c, q)
  | 0, _, _, _, _, _, _, h => by cases h
  | m + 1, s, s', t, f, c, q, h => by
    have h1 : (match endAt b t with
      | some f => some (f, s, t.code, t.pos)
      | none => match stepOk n0 ann t with
        | false => none
        | true => match stepT (denote tb) p w s t with
          | some (s', t') => frS s' fun s' => sgF (stepT (denote tb) p w) n0 ann b m s' t'
          | none => none) = some (f, s', c, q) := h
    unfold segRun
    cases he : endAt b t with
    | some x =>
      rw [he] at h1
      cases h1
      rfl
    | none =>
      rw [he] at h1
      cases hk : stepOk n0 ann t with
      | false =>
        rw [hk] at h1
        cases h1
      | true =>
        rw [hk] at h1
        have h2 : (match stepT (denote tb) p w s t with
          | some (s', t') => frS s' fun s' => sgF (stepT (denote tb) p w) n0 ann b m s' t'
          | none => none) = some (f, s', c, q) := h1
        cases hs : stepT (denote tb) p w s t with
        | none =>
          rw [hs] at h2
          cases h2
        | some r =>
          obtain ⟨s2, t2⟩ := r
          rw [hs] at h2
          have h3 : (frS s2 fun s' => sgF (stepT (denote tb) p w) n0 ann b m s' t2) = some (f, s', c, q) := h2
          rw [frS_eq] at h3
          have q' := sgF_ok h3
          show (match step (denote tb) p w s.abs t with
            | .go s' t' => segRun tb p w n0 ann b m s' t'
            | .halt _ _ => none) = some (f, s'.abs, c, q)
          rw [stepT_spec hs]
          exact q'
theorem seg_q {p : Program} {w : World} {n0 : Nat} {ann : Option Value} {m : Nat} {s s' : SharedT} {t : Thread} {f : Flow} {c : Code} {q : Pos}
    (h : sgF (stepQ (denQ tabQ) p w) n0 ann 1 m s t = some (f, s', c, q)) : segRun treeTable p w n0 ann 1 m s.abs t = some (f, s'.abs, c, q) :=
  sgF_ok (by rw [stepQ_eq, denQ_eq, tabQ_eq]; exact h)
theorem fin_q {p : Program} {w : World} {n0 : Nat} {ann : Option Value} {m : Nat} {s s' : SharedT} {t : Thread}
    (h : goF (stepQ (denQ tabQ) p w) n0 ann m s t = some s') : topRun treeTable p w n0 ann m s.abs t = some s'.abs :=
  goF_ok (by rw [stepQ_eq, denQ_eq, tabQ_eq]; exact h)
section
variable (st : SharedT → Thread → Option (SharedT × Thread))
end
theorem left_cut {p q : Program} {loose : List Str} {Xt : Shared → Bool} {K : Params → Frag} {as : List Addr} {ek : ∀ P, as = (K P).map (·.1)} {N M n0 : Nat} {ann : Option Value}
    (S : World → OsState → SharedT) (an : ∀ w, bootAnn w = ann) (sz : ∀ w : World, (boot_heap w.params).objs.size = n0)
    (run : ∀ (w : World) (os : OsState), topRun treeTable p w n0 ann M ⟨boot_heap w.params, #[], boot_drawn, boot_toks, os⟩ (topStub p) = some (S w os).abs)
    (e : opening p = plainProg p.main.scope.names) (hN : Nat.ble 600 N = true) (f : ∀ s, fenceModules? p s = some s) (le : Nat.ble M N = true)
    (look1 : ∀ (w : World) (os : OsState), looksF p (boot_heap w.params) (S w os).abs = true)
    (look2 : ∀ (w : World) (os : OsState), seenQ q loose (importedModules p.main.body) Xt (S w os).abs = openGood q loose)
    (look3 : ∀ (w : World) (os : OsState), as.map (getT (S w os)) = (K w.params).map fun x => some x.2)
    (_ : ∀ (_ : World) (_ : OsState), (0 : Nat) = 0) :
    LeftO p q loose Xt (Hook.obs (kHook K as ek)) (Hook.val (kHook K as ek)) N true := fun w => by
  obtain ⟨⟨h, gs, d, k, os⟩, a, a'⟩ := Option.map_eq_some_iff.mp (boot_open e hN f w)
  obtain ⟨rfl, rfl, rfl, rfl⟩ : h = boot_heap w.params ∧ gs = Array.mk [] ∧ d = boot_drawn ∧ k = boot_toks := by simpa using a'
  have hs := run w os
  have l1 := look1 w os
  have l2 := look2 w os
  have l3 := look3 w os
  have l3 : Hook.obs (kHook K as ek) (S w os).abs = Hook.val (kHook K as ek) w := by
    have q1 : as.map (getT (S w os)) = Hook.obs (kHook K as ek) (S w os).abs := List.map_congr_left fun a _ => getT_eq (S w os) a
    rw [← q1]
    exact l3
  rw [← sz w, ← an w] at hs
  have r := topRun_mono (N - M) _ _ _ _ hs
  rw [show M + (N - M) = N by have := Nat.le_of_ble_eq_true le; omega] at r
  have l1' : (staticsOk (importedModules p.main.body) (boot_heap w.params) (S w os).abs.heap && namesBound p (S w os).abs.heap && gensDone (S w os).abs && laidKept (boot_heap w.params) (S w os).abs.heap) = true := l1
  have t : topFrom treeTable p w N ⟨boot_heap w.params, Array.mk [], boot_drawn, boot_toks, os⟩ = some (S w os).abs := by
    unfold topFrom
    dsimp only
    rw [boot_ns]
    show (topRun treeTable p w (boot_heap w.params).objs.size (bootAnn w) N ⟨boot_heap w.params, #[], boot_drawn, boot_toks, os⟩ (topStub p)).bind _ = _
    rw [r]
    show (match staticsOk (importedModules p.main.body) (boot_heap w.params) (S w os).abs.heap && namesBound p (S w os).abs.heap && gensDone (S w os).abs && laidKept (boot_heap w.params) (S w os).abs.heap with | true => some (S w os).abs | false => none) = _
    rw [l1']
  unfold openEnds
  rw [a]
  show (topFrom treeTable p w N _).map _ = _
  rw [t]
  exact congrArg some (Prod.ext (by simpa only [seenQ_eq] using l2) l3)
section
variable {a b c d e f g h i : Type}
def pr1 (x : a × b × c × d × e × f × g × h × i) : a := match x with | (z, _, _, _, _, _, _, _, _) => z
def pr2 (x : a × b × c × d × e × f × g × h × i) : b := match x with | (_, z, _, _, _, _, _, _, _) => z
def pr3 (x : a × b × c × d × e × f × g × h × i) : c := match x with | (_, _, z, _, _, _, _, _, _) => z
def pr4 (x : a × b × c × d × e × f × g × h × i) : d := match x with | (_, _, _, z, _, _, _, _, _) => z
def pr5 (x : a × b × c × d × e × f × g × h × i) : e := match x with | (_, _, _, _, z, _, _, _, _) => z
def pr6 (x : a × b × c × d × e × f × g × h × i) : f := match x with | (_, _, _, _, _, z, _, _, _) => z
def pr7 (x : a × b × c × d × e × f × g × h × i) : g := match x with | (_, _, _, _, _, _, z, _, _) => z
def pr8 (x : a × b × c × d × e × f × g × h × i) : h := match x with | (_, _, _, _, _, _, _, z, _) => z
def pr9 (x : a × b × c × d × e × f × g × h × i) : i := match x with | (_, _, _, _, _, _, _, _, z) => z
theorem p9 {x y : a × b × c × d × e × f × g × h × i} (h1 : x.1 = pr1 y) (h2 : x.2.1 = pr2 y) (h3 : x.2.2.1 = pr3 y) (h4 : x.2.2.2.1 = pr4 y) (h5 : x.2.2.2.2.1 = pr5 y) (h6 : x.2.2.2.2.2.1 = pr6 y)
    (h7 : x.2.2.2.2.2.2.1 = pr7 y) (h8 : x.2.2.2.2.2.2.2.1 = pr8 y) (h9 : x.2.2.2.2.2.2.2.2 = pr9 y) : x = y := by
  obtain ⟨x1, x2, x3, x4, x5, x6, x7, x8, x9⟩ := x
  obtain ⟨y1, y2, y3, y4, y5, y6, y7, y8, y9⟩ := y
  cases h1; cases h2; cases h3; cases h4; cases h5; cases h6; cases h7; cases h8; cases h9
  rfl
end
def fD (n q : Str) (s : Stmt) (g : Addr) (cl : List (Str × Addr)) (d k doc pm : Value) (an : Option Addr) (c ct : Value) (b : Addr) : FuncData := ⟨n, q, defArgs s, .stmts (defBody s), defScope s, g, cl, d, k, doc, pm, an, c, ct, b⟩
end Hd
set_option Elab.async false
set_option maxRecDepth 100000
set_option maxHeartbeats 0
set_option linter.all false
set_option autoImplicit false
namespace Hd
open PySem PySem.W HeadRun L2
abbrev pE : Program := PySem.Challenge.pw_usualdays_k79_least_meeting_lots
def topM (i : Nat) : Stmt := pE.main.body.getD i (.Pass ⟨0, 0, 0, 0⟩)
def top (i : Nat) : Stmt := pE.main.body.getD i (.Pass ⟨0, 0, 0, 0⟩)
noncomputable def env : Env := { scope := pE.main.scope, locals := mainNs, globals := mainNs, cells := [], code := .ref 13, frame := some 14 }
noncomputable def q0 : Pos := ⟨0, 0, 0, 0⟩
noncomputable def posA : Pos := ⟨0, 0, 0, 0⟩
noncomputable def posB : Pos := ⟨0, 0, 0, 0⟩
noncomputable def ann : Option Value := some (.ref 6)
noncomputable def pos0 : Pos := ⟨95, 0, 124, 71⟩
noncomputable def o11_0 (P : Params) : Obj := ⟨.type "tuple", none, .seq #[] 0, #[]⟩
noncomputable def o12_0 (P : Params) : Obj := ⟨.none, none, .fields #[], #[]⟩
noncomputable def o13_0 (P : Params) : Obj := ⟨.type "code", none, .fields #[.str "<module>" 182, .str "<module>" 183, .str "/claim/cut.py" 184, .int 1 0, .int 0 0, .int 0 0, .int 0 0, .int 0 0, .ref 11, .bool false, .int 181 0, .ref 12, .none, .none, .none, .none, .int 185 0, .int 1 0, .str "/claim/cut.py" 186], #[]⟩
noncomputable def o14_0 (P : Params) : Obj := ⟨.type "frame", none, .plain, #[some (.ref 13), some (.ref 3), some (.ref 3), none, some (.str "__main__" 164), none, some (.ref 0)]⟩
noncomputable def o3_0 (P : Params) : Obj := ⟨.type "dict", none, .dict #[⟨PyData.keyHash P "__name__", .str "__name__" 165, .str "law_usualdays_k79_least_meeting_lots" 250⟩, ⟨PyData.keyHash P "__doc__", .str "__doc__" 166, .none⟩, ⟨PyData.keyHash P "__package__", .str "__package__" 167, .none⟩, ⟨PyData.keyHash P "__loader__", .str "__loader__" 168, .builtin "__main__.__loader__#\u006fpaque"⟩, ⟨PyData.keyHash P "__spec__", .str "__spec__" 169, .none⟩, ⟨PyData.keyHash P "__annotations__", .str "__annotations__" 170, .ref 6⟩, ⟨PyData.keyHash P "__builtins__", .str "__builtins__" 171, .ref 4⟩, ⟨PyData.keyHash P "__file__", .str "__file__" 173, .str "/claim/cut.py" 172⟩, ⟨PyData.keyHash P "__cached__", .str "__cached__" 174, .none⟩, ⟨PyData.keyHash P "set_of", .str "set_of" 197, .ref 21⟩, ⟨PyData.keyHash P "within", .str "within" 205, .ref 28⟩, ⟨PyData.keyHash P "all_lots", .str "all_lots" 213, .ref 33⟩, ⟨PyData.keyHash P "first_behind", .str "first_behind" 220, .ref 40⟩, ⟨PyData.keyHash P "least_lots", .str "least_lots" 226, .ref 45⟩, ⟨PyData.keyHash P "least_meeting", .str "least_meeting" 234, .ref 50⟩, ⟨PyData.keyHash P "least_sets", .str "least_sets" 240, .ref 55⟩, ⟨PyData.keyHash P "meets_all", .str "meets_all" 249, .ref 62⟩, ⟨PyData.keyHash P "_law_bag", .str "_law_bag" 263, .ref 69⟩, ⟨PyData.keyHash P "_law_take", .str "_law_take" 272, .ref 76⟩, ⟨PyData.keyHash P "_law_of", .str "_law_of" 280, .ref 83⟩, ⟨PyData.keyHash P "_law_lot", .str "_law_lot" 286, .ref 88⟩, ⟨PyData.keyHash P "_law_set", .str "_law_set" 292, .ref 93⟩, ⟨PyData.keyHash P "_law_sorted", .str "_law_sorted" 298, .ref 98⟩, ⟨PyData.keyHash P "_law_is_number", .str "_law_is_number" 305, .ref 105⟩, ⟨PyData.keyHash P "_law_places", .str "_law_places" 311, .ref 110⟩, ⟨PyData.keyHash P "_law_barest", .str "_law_barest" 317, .ref 115⟩, ⟨PyData.keyHash P "_law_meeting", .str "_law_meeting" 323, .ref 120⟩, ⟨PyData.keyHash P "_law_many", .str "_law_many" 329, .ref 125⟩, ⟨PyData.keyHash P "law", .str "law" 335, .ref 130⟩] 29, #[]⟩
noncomputable def o12_1 (P : Params) : Obj := ⟨.none, none, .fields #[.int 2 0, .int 0 0, .ref 20, .int 7 0, .int 0 0, .ref 27, .int 10 0, .int 0 0, .ref 32, .int 17 0, .int 0 0, .ref 39, .int 19 0, .int 0 0, .ref 44, .int 29 0, .int 0 0, .ref 49, .int 34 0, .int 0 0, .ref 54, .int 37 0, .int 0 0, .ref 61, .int 43 0, .int 0 0, .ref 68, .int 49 0, .int 0 0, .ref 75, .int 57 0, .int 0 0, .ref 82, .int 59 0, .int 0 0, .ref 87, .int 61 0, .int 0 0, .ref 92, .int 63 0, .int 0 0, .ref 97, .int 65 0, .int 0 0, .ref 104, .int 67 0, .int 0 0, .ref 109, .int 72 0, .int 0 0, .ref 114, .int 78 0, .int 0 0, .ref 119, .int 88 0, .int 0 0, .ref 124, .int 95 0, .int 0 0, .ref 129], #[]⟩
noncomputable def o15_0 (P : Params) : Obj := ⟨.type "tuple", none, .seq #[] 0, #[]⟩
noncomputable def o16_0 (P : Params) : Obj := ⟨.none, none, .fields #[], #[]⟩
noncomputable def o17_0 (P : Params) : Obj := ⟨.type "tuple", none, .seq #[.str "days" 192, .str "day_set" 193, .str "day" 194] 0, #[]⟩
noncomputable def o18_0 (P : Params) : Obj := ⟨.type "tuple", none, .seq #[] 0, #[]⟩
noncomputable def o19_0 (P : Params) : Obj := ⟨.none, none, .func (Hd.fD "set_of" "set_of" (top 1) 0 [] .none .none .none .none none .none .none 0), #[]⟩
noncomputable def o20_0 (P : Params) : Obj := ⟨.type "code", none, .fields #[.str "set_of" 189, .str "set_of" 190, .str "/claim/cut.py" 191, .int 2 0, .int 1 0, .int 0 0, .int 0 0, .int 3 0, .ref 15, .bool true, .int 181 0, .ref 16, .none, .ref 17, .ref 18, .ref 19, .int 195 0, .int 2 0, .str "/claim/cut.py" 196], #[]⟩
noncomputable def o21_0 (P : Params) : Obj := ⟨.type "function", none, .func (Hd.fD "set_of" "set_of" (top 1) 3 [] .none .none .none (.str "usualdays.daysets" 187) none (.ref 20) .none 0), #[]⟩
noncomputable def o22_0 (P : Params) : Obj := ⟨.type "tuple", none, .seq #[] 0, #[]⟩
noncomputable def o23_0 (P : Params) : Obj := ⟨.none, none, .fields #[], #[]⟩
noncomputable def o24_0 (P : Params) : Obj := ⟨.type "tuple", none, .seq #[.str "one" 201, .str "other" 202] 0, #[]⟩
noncomputable def o25_0 (P : Params) : Obj := ⟨.type "tuple", none, .seq #[] 0, #[]⟩
noncomputable def o26_0 (P : Params) : Obj := ⟨.none, none, .func (Hd.fD "within" "within" (top 2) 0 [] .none .none .none .none none .none .none 0), #[]⟩
noncomputable def o27_0 (P : Params) : Obj := ⟨.type "code", none, .fields #[.str "within" 198, .str "within" 199, .str "/claim/cut.py" 200, .int 7 0, .int 2 0, .int 0 0, .int 0 0, .int 3 0, .ref 22, .bool true, .int 181 0, .ref 23, .none, .ref 24, .ref 25, .ref 26, .int 203 0, .int 7 0, .str "/claim/cut.py" 204], #[]⟩
noncomputable def o28_0 (P : Params) : Obj := ⟨.type "function", none, .func (Hd.fD "within" "within" (top 2) 3 [] .none .none .none (.str "usualdays.daysets" 187) none (.ref 27) .none 0), #[]⟩
noncomputable def o29_0 (P : Params) : Obj := ⟨.type "tuple", none, .seq #[] 0, #[]⟩
noncomputable def o30_0 (P : Params) : Obj := ⟨.none, none, .fields #[], #[]⟩
noncomputable def o31_0 (P : Params) : Obj := ⟨.none, none, .func (Hd.fD "all_lots" "all_lots" (top 4) 0 [] .none .none .none .none none .none .none 0), #[]⟩
noncomputable def o32_0 (P : Params) : Obj := ⟨.type "code", none, .fields #[.str "all_lots" 208, .str "all_lots" 209, .str "/claim/cut.py" 210, .int 10 0, .int 1 0, .int 0 0, .int 0 0, .int 3 0, .ref 29, .bool true, .int 181 0, .ref 30, .none, .none, .none, .ref 31, .int 211 0, .int 10 0, .str "/claim/cut.py" 212], #[]⟩
noncomputable def o33_0 (P : Params) : Obj := ⟨.type "function", none, .func (Hd.fD "all_lots" "all_lots" (top 4) 3 [] .none .none .none (.str "usualdays.lots" 206) none (.ref 32) .none 0), #[]⟩
noncomputable def o34_0 (P : Params) : Obj := ⟨.type "tuple", none, .seq #[] 0, #[]⟩
noncomputable def o35_0 (P : Params) : Obj := ⟨.none, none, .fields #[], #[]⟩
noncomputable def o36_0 (P : Params) : Obj := ⟨.type "tuple", none, .seq #[.str "lot" 217] 0, #[]⟩
noncomputable def o37_0 (P : Params) : Obj := ⟨.type "tuple", none, .seq #[] 0, #[]⟩
noncomputable def o38_0 (P : Params) : Obj := ⟨.none, none, .func (Hd.fD "first_behind" "first_behind" (top 5) 0 [] .none .none .none .none none .none .none 0), #[]⟩
noncomputable def o39_0 (P : Params) : Obj := ⟨.type "code", none, .fields #[.str "first_behind" 214, .str "first_behind" 215, .str "/claim/cut.py" 216, .int 17 0, .int 1 0, .int 0 0, .int 0 0, .int 3 0, .ref 34, .bool true, .int 181 0, .ref 35, .none, .ref 36, .ref 37, .ref 38, .int 218 0, .int 17 0, .str "/claim/cut.py" 219], #[]⟩
noncomputable def o40_0 (P : Params) : Obj := ⟨.type "function", none, .func (Hd.fD "first_behind" "first_behind" (top 5) 3 [] .none .none .none (.str "usualdays.lots" 206) none (.ref 39) .none 0), #[]⟩
noncomputable def o41_0 (P : Params) : Obj := ⟨.type "tuple", none, .seq #[] 0, #[]⟩
noncomputable def o42_0 (P : Params) : Obj := ⟨.none, none, .fields #[], #[]⟩
noncomputable def o43_0 (P : Params) : Obj := ⟨.none, none, .func (Hd.fD "least_lots" "least_lots" (top 6) 0 [] .none .none .none .none none .none .none 0), #[]⟩
noncomputable def o44_0 (P : Params) : Obj := ⟨.type "code", none, .fields #[.str "least_lots" 221, .str "least_lots" 222, .str "/claim/cut.py" 223, .int 19 0, .int 1 0, .int 0 0, .int 0 0, .int 3 0, .ref 41, .bool true, .int 181 0, .ref 42, .none, .none, .none, .ref 43, .int 224 0, .int 19 0, .str "/claim/cut.py" 225], #[]⟩
noncomputable def o45_0 (P : Params) : Obj := ⟨.type "function", none, .func (Hd.fD "least_lots" "least_lots" (top 6) 3 [] .none .none .none (.str "usualdays.lots" 206) none (.ref 44) .none 0), #[]⟩
noncomputable def o46_0 (P : Params) : Obj := ⟨.type "tuple", none, .seq #[] 0, #[]⟩
noncomputable def o47_0 (P : Params) : Obj := ⟨.none, none, .fields #[], #[]⟩
noncomputable def o48_0 (P : Params) : Obj := ⟨.none, none, .func (Hd.fD "least_meeting" "least_meeting" (top 8) 0 [] .none .none .none .none none .none .none 0), #[]⟩
noncomputable def o49_0 (P : Params) : Obj := ⟨.type "code", none, .fields #[.str "least_meeting" 229, .str "least_meeting" 230, .str "/claim/cut.py" 231, .int 29 0, .int 1 0, .int 0 0, .int 0 0, .int 3 0, .ref 46, .bool true, .int 181 0, .ref 47, .none, .none, .none, .ref 48, .int 232 0, .int 29 0, .str "/claim/cut.py" 233], #[]⟩
noncomputable def o50_0 (P : Params) : Obj := ⟨.type "function", none, .func (Hd.fD "least_meeting" "least_meeting" (top 8) 3 [] .none .none .none (.str "usualdays.meeting" 227) none (.ref 49) .none 0), #[]⟩
noncomputable def o51_0 (P : Params) : Obj := ⟨.type "tuple", none, .seq #[] 0, #[]⟩
noncomputable def o52_0 (P : Params) : Obj := ⟨.none, none, .fields #[], #[]⟩
noncomputable def o53_0 (P : Params) : Obj := ⟨.none, none, .func (Hd.fD "least_sets" "least_sets" (top 9) 0 [] .none .none .none .none none .none .none 0), #[]⟩
noncomputable def o54_0 (P : Params) : Obj := ⟨.type "code", none, .fields #[.str "least_sets" 235, .str "least_sets" 236, .str "/claim/cut.py" 237, .int 34 0, .int 1 0, .int 0 0, .int 0 0, .int 3 0, .ref 51, .bool true, .int 181 0, .ref 52, .none, .none, .none, .ref 53, .int 238 0, .int 34 0, .str "/claim/cut.py" 239], #[]⟩
noncomputable def o55_0 (P : Params) : Obj := ⟨.type "function", none, .func (Hd.fD "least_sets" "least_sets" (top 9) 3 [] .none .none .none (.str "usualdays.meeting" 227) none (.ref 54) .none 0), #[]⟩
noncomputable def o56_0 (P : Params) : Obj := ⟨.type "tuple", none, .seq #[] 0, #[]⟩
noncomputable def o57_0 (P : Params) : Obj := ⟨.none, none, .fields #[], #[]⟩
noncomputable def o58_0 (P : Params) : Obj := ⟨.type "tuple", none, .seq #[.str "numbers" 244, .str "wanted" 245, .str "other" 246] 0, #[]⟩
noncomputable def o59_0 (P : Params) : Obj := ⟨.type "tuple", none, .seq #[] 0, #[]⟩
noncomputable def o60_0 (P : Params) : Obj := ⟨.none, none, .func (Hd.fD "meets_all" "meets_all" (top 10) 0 [] .none .none .none .none none .none .none 0), #[]⟩
noncomputable def o61_0 (P : Params) : Obj := ⟨.type "code", none, .fields #[.str "meets_all" 241, .str "meets_all" 242, .str "/claim/cut.py" 243, .int 37 0, .int 2 0, .int 0 0, .int 0 0, .int 3 0, .ref 56, .bool true, .int 181 0, .ref 57, .none, .ref 58, .ref 59, .ref 60, .int 247 0, .int 37 0, .str "/claim/cut.py" 248], #[]⟩
noncomputable def o62_0 (P : Params) : Obj := ⟨.type "function", none, .func (Hd.fD "meets_all" "meets_all" (top 10) 3 [] .none .none .none (.str "usualdays.meeting" 227) none (.ref 61) .none 0), #[]⟩
noncomputable def o63_0 (P : Params) : Obj := ⟨.type "tuple", none, .seq #[] 0, #[]⟩
noncomputable def o64_0 (P : Params) : Obj := ⟨.none, none, .fields #[], #[]⟩
noncomputable def o65_0 (P : Params) : Obj := ⟨.type "tuple", none, .seq #[.str "_law_script" 255, .str "_law_at" 256, .str "_law_cell" 257, .str "_law_mix" 258, .str "_law_k" 259, .str "_law_each" 260] 0, #[]⟩
noncomputable def o66_0 (P : Params) : Obj := ⟨.type "tuple", none, .seq #[] 0, #[]⟩
noncomputable def o67_0 (P : Params) : Obj := ⟨.none, none, .func (Hd.fD "_law_bag" "_law_bag" (top 12) 0 [] .none .none .none .none none .none .none 0), #[]⟩
noncomputable def o68_0 (P : Params) : Obj := ⟨.type "code", none, .fields #[.str "_law_bag" 252, .str "_law_bag" 253, .str "/claim/cut.py" 254, .int 43 0, .int 2 0, .int 0 0, .int 0 0, .int 3 0, .ref 63, .bool true, .int 181 0, .ref 64, .none, .ref 65, .ref 66, .ref 67, .int 261 0, .int 43 0, .str "/claim/cut.py" 262], #[]⟩
noncomputable def o69_0 (P : Params) : Obj := ⟨.type "function", none, .func (Hd.fD "_law_bag" "_law_bag" (top 12) 3 [] .none .none .none (.str "law_usualdays_k79_least_meeting_lots" 250) none (.ref 68) .none 0), #[]⟩
noncomputable def o70_0 (P : Params) : Obj := ⟨.type "tuple", none, .seq #[] 0, #[]⟩
noncomputable def o71_0 (P : Params) : Obj := ⟨.none, none, .fields #[], #[]⟩
noncomputable def o72_0 (P : Params) : Obj := ⟨.type "tuple", none, .seq #[.str "_law_bag_here" 267, .str "_law_many_here" 268, .str "_law_digit" 269] 0, #[]⟩
noncomputable def o73_0 (P : Params) : Obj := ⟨.type "tuple", none, .seq #[] 0, #[]⟩
noncomputable def o74_0 (P : Params) : Obj := ⟨.none, none, .func (Hd.fD "_law_take" "_law_take" (top 13) 0 [] .none .none .none .none none .none .none 0), #[]⟩
noncomputable def o75_0 (P : Params) : Obj := ⟨.type "code", none, .fields #[.str "_law_take" 264, .str "_law_take" 265, .str "/claim/cut.py" 266, .int 49 0, .int 2 0, .int 0 0, .int 0 0, .int 3 0, .ref 70, .bool true, .int 181 0, .ref 71, .none, .ref 72, .ref 73, .ref 74, .int 270 0, .int 49 0, .str "/claim/cut.py" 271], #[]⟩
noncomputable def o76_0 (P : Params) : Obj := ⟨.type "function", none, .func (Hd.fD "_law_take" "_law_take" (top 13) 3 [] .none .none .none (.str "law_usualdays_k79_least_meeting_lots" 250) none (.ref 75) .none 0), #[]⟩
noncomputable def o77_0 (P : Params) : Obj := ⟨.type "tuple", none, .seq #[] 0, #[]⟩
noncomputable def o78_0 (P : Params) : Obj := ⟨.none, none, .fields #[], #[]⟩
noncomputable def o79_0 (P : Params) : Obj := ⟨.type "tuple", none, .seq #[.str "_law_bag_here" 276, .str "_law_some" 277] 0, #[]⟩
noncomputable def o80_0 (P : Params) : Obj := ⟨.type "tuple", none, .seq #[] 0, #[]⟩
noncomputable def o81_0 (P : Params) : Obj := ⟨.none, none, .func (Hd.fD "_law_of" "_law_of" (top 14) 0 [] .none .none .none .none none .none .none 0), #[]⟩
noncomputable def o82_0 (P : Params) : Obj := ⟨.type "code", none, .fields #[.str "_law_of" 273, .str "_law_of" 274, .str "/claim/cut.py" 275, .int 57 0, .int 2 0, .int 0 0, .int 0 0, .int 3 0, .ref 77, .bool true, .int 181 0, .ref 78, .none, .ref 79, .ref 80, .ref 81, .int 278 0, .int 57 0, .str "/claim/cut.py" 279], #[]⟩
noncomputable def o83_0 (P : Params) : Obj := ⟨.type "function", none, .func (Hd.fD "_law_of" "_law_of" (top 14) 3 [] .none .none .none (.str "law_usualdays_k79_least_meeting_lots" 250) none (.ref 82) .none 0), #[]⟩
noncomputable def o84_0 (P : Params) : Obj := ⟨.type "tuple", none, .seq #[] 0, #[]⟩
noncomputable def o85_0 (P : Params) : Obj := ⟨.none, none, .fields #[], #[]⟩
noncomputable def o86_0 (P : Params) : Obj := ⟨.none, none, .func (Hd.fD "_law_lot" "_law_lot" (top 15) 0 [] .none .none .none .none none .none .none 0), #[]⟩
noncomputable def o87_0 (P : Params) : Obj := ⟨.type "code", none, .fields #[.str "_law_lot" 281, .str "_law_lot" 282, .str "/claim/cut.py" 283, .int 59 0, .int 1 0, .int 0 0, .int 0 0, .int 3 0, .ref 84, .bool true, .int 181 0, .ref 85, .none, .none, .none, .ref 86, .int 284 0, .int 59 0, .str "/claim/cut.py" 285], #[]⟩
noncomputable def o88_0 (P : Params) : Obj := ⟨.type "function", none, .func (Hd.fD "_law_lot" "_law_lot" (top 15) 3 [] .none .none .none (.str "law_usualdays_k79_least_meeting_lots" 250) none (.ref 87) .none 0), #[]⟩
noncomputable def o89_0 (P : Params) : Obj := ⟨.type "tuple", none, .seq #[] 0, #[]⟩
noncomputable def o90_0 (P : Params) : Obj := ⟨.none, none, .fields #[], #[]⟩
noncomputable def o91_0 (P : Params) : Obj := ⟨.none, none, .func (Hd.fD "_law_set" "_law_set" (top 16) 0 [] .none .none .none .none none .none .none 0), #[]⟩
noncomputable def o92_0 (P : Params) : Obj := ⟨.type "code", none, .fields #[.str "_law_set" 287, .str "_law_set" 288, .str "/claim/cut.py" 289, .int 61 0, .int 1 0, .int 0 0, .int 0 0, .int 3 0, .ref 89, .bool true, .int 181 0, .ref 90, .none, .none, .none, .ref 91, .int 290 0, .int 61 0, .str "/claim/cut.py" 291], #[]⟩
noncomputable def o93_0 (P : Params) : Obj := ⟨.type "function", none, .func (Hd.fD "_law_set" "_law_set" (top 16) 3 [] .none .none .none (.str "law_usualdays_k79_least_meeting_lots" 250) none (.ref 92) .none 0), #[]⟩
noncomputable def o94_0 (P : Params) : Obj := ⟨.type "tuple", none, .seq #[] 0, #[]⟩
noncomputable def o95_0 (P : Params) : Obj := ⟨.none, none, .fields #[], #[]⟩
noncomputable def o96_0 (P : Params) : Obj := ⟨.none, none, .func (Hd.fD "_law_sorted" "_law_sorted" (top 17) 0 [] .none .none .none .none none .none .none 0), #[]⟩
noncomputable def o97_0 (P : Params) : Obj := ⟨.type "code", none, .fields #[.str "_law_sorted" 293, .str "_law_sorted" 294, .str "/claim/cut.py" 295, .int 63 0, .int 1 0, .int 0 0, .int 0 0, .int 3 0, .ref 94, .bool true, .int 181 0, .ref 95, .none, .none, .none, .ref 96, .int 296 0, .int 63 0, .str "/claim/cut.py" 297], #[]⟩
noncomputable def o98_0 (P : Params) : Obj := ⟨.type "function", none, .func (Hd.fD "_law_sorted" "_law_sorted" (top 17) 3 [] .none .none .none (.str "law_usualdays_k79_least_meeting_lots" 250) none (.ref 97) .none 0), #[]⟩
noncomputable def o99_0 (P : Params) : Obj := ⟨.type "tuple", none, .seq #[] 0, #[]⟩
noncomputable def o100_0 (P : Params) : Obj := ⟨.none, none, .fields #[], #[]⟩
noncomputable def o101_0 (P : Params) : Obj := ⟨.type "tuple", none, .seq #[.str "_law_thing" 302] 0, #[]⟩
noncomputable def o102_0 (P : Params) : Obj := ⟨.type "tuple", none, .seq #[] 0, #[]⟩
noncomputable def o103_0 (P : Params) : Obj := ⟨.none, none, .func (Hd.fD "_law_is_number" "_law_is_number" (top 18) 0 [] .none .none .none .none none .none .none 0), #[]⟩
noncomputable def o104_0 (P : Params) : Obj := ⟨.type "code", none, .fields #[.str "_law_is_number" 299, .str "_law_is_number" 300, .str "/claim/cut.py" 301, .int 65 0, .int 1 0, .int 0 0, .int 0 0, .int 3 0, .ref 99, .bool true, .int 181 0, .ref 100, .none, .ref 101, .ref 102, .ref 103, .int 303 0, .int 65 0, .str "/claim/cut.py" 304], #[]⟩
noncomputable def o105_0 (P : Params) : Obj := ⟨.type "function", none, .func (Hd.fD "_law_is_number" "_law_is_number" (top 18) 3 [] .none .none .none (.str "law_usualdays_k79_least_meeting_lots" 250) none (.ref 104) .none 0), #[]⟩
noncomputable def o106_0 (P : Params) : Obj := ⟨.type "tuple", none, .seq #[] 0, #[]⟩
noncomputable def o107_0 (P : Params) : Obj := ⟨.none, none, .fields #[], #[]⟩
noncomputable def o108_0 (P : Params) : Obj := ⟨.none, none, .func (Hd.fD "_law_places" "_law_places" (top 19) 0 [] .none .none .none .none none .none .none 0), #[]⟩
noncomputable def o109_0 (P : Params) : Obj := ⟨.type "code", none, .fields #[.str "_law_places" 306, .str "_law_places" 307, .str "/claim/cut.py" 308, .int 67 0, .int 2 0, .int 0 0, .int 0 0, .int 3 0, .ref 106, .bool true, .int 181 0, .ref 107, .none, .none, .none, .ref 108, .int 309 0, .int 67 0, .str "/claim/cut.py" 310], #[]⟩
noncomputable def o110_0 (P : Params) : Obj := ⟨.type "function", none, .func (Hd.fD "_law_places" "_law_places" (top 19) 3 [] .none .none .none (.str "law_usualdays_k79_least_meeting_lots" 250) none (.ref 109) .none 0), #[]⟩
noncomputable def o111_0 (P : Params) : Obj := ⟨.type "tuple", none, .seq #[] 0, #[]⟩
noncomputable def o112_0 (P : Params) : Obj := ⟨.none, none, .fields #[], #[]⟩
noncomputable def o113_0 (P : Params) : Obj := ⟨.none, none, .func (Hd.fD "_law_barest" "_law_barest" (top 20) 0 [] .none .none .none .none none .none .none 0), #[]⟩
noncomputable def o114_0 (P : Params) : Obj := ⟨.type "code", none, .fields #[.str "_law_barest" 312, .str "_law_barest" 313, .str "/claim/cut.py" 314, .int 72 0, .int 1 0, .int 0 0, .int 0 0, .int 3 0, .ref 111, .bool true, .int 181 0, .ref 112, .none, .none, .none, .ref 113, .int 315 0, .int 72 0, .str "/claim/cut.py" 316], #[]⟩
noncomputable def o115_0 (P : Params) : Obj := ⟨.type "function", none, .func (Hd.fD "_law_barest" "_law_barest" (top 20) 3 [] .none .none .none (.str "law_usualdays_k79_least_meeting_lots" 250) none (.ref 114) .none 0), #[]⟩
noncomputable def o116_0 (P : Params) : Obj := ⟨.type "tuple", none, .seq #[] 0, #[]⟩
noncomputable def o117_0 (P : Params) : Obj := ⟨.none, none, .fields #[], #[]⟩
noncomputable def o118_0 (P : Params) : Obj := ⟨.none, none, .func (Hd.fD "_law_meeting" "_law_meeting" (top 21) 0 [] .none .none .none .none none .none .none 0), #[]⟩
noncomputable def o119_0 (P : Params) : Obj := ⟨.type "code", none, .fields #[.str "_law_meeting" 318, .str "_law_meeting" 319, .str "/claim/cut.py" 320, .int 78 0, .int 2 0, .int 0 0, .int 0 0, .int 3 0, .ref 116, .bool true, .int 181 0, .ref 117, .none, .none, .none, .ref 118, .int 321 0, .int 78 0, .str "/claim/cut.py" 322], #[]⟩
noncomputable def o120_0 (P : Params) : Obj := ⟨.type "function", none, .func (Hd.fD "_law_meeting" "_law_meeting" (top 21) 3 [] .none .none .none (.str "law_usualdays_k79_least_meeting_lots" 250) none (.ref 119) .none 0), #[]⟩
noncomputable def o121_0 (P : Params) : Obj := ⟨.type "tuple", none, .seq #[] 0, #[]⟩
noncomputable def o122_0 (P : Params) : Obj := ⟨.none, none, .fields #[], #[]⟩
noncomputable def o123_0 (P : Params) : Obj := ⟨.none, none, .func (Hd.fD "_law_many" "_law_many" (top 22) 0 [] .none .none .none .none none .none .none 0), #[]⟩
noncomputable def o124_0 (P : Params) : Obj := ⟨.type "code", none, .fields #[.str "_law_many" 324, .str "_law_many" 325, .str "/claim/cut.py" 326, .int 88 0, .int 1 0, .int 0 0, .int 0 0, .int 3 0, .ref 121, .bool true, .int 181 0, .ref 122, .none, .none, .none, .ref 123, .int 327 0, .int 88 0, .str "/claim/cut.py" 328], #[]⟩
noncomputable def o125_0 (P : Params) : Obj := ⟨.type "function", none, .func (Hd.fD "_law_many" "_law_many" (top 22) 3 [] .none .none .none (.str "law_usualdays_k79_least_meeting_lots" 250) none (.ref 124) .none 0), #[]⟩
noncomputable def o126_0 (P : Params) : Obj := ⟨.type "tuple", none, .seq #[] 0, #[]⟩
noncomputable def o127_0 (P : Params) : Obj := ⟨.none, none, .fields #[], #[]⟩
noncomputable def o128_0 (P : Params) : Obj := ⟨.none, none, .func (Hd.fD "law" "law" (top 23) 0 [] .none .none .none .none none .none .none 0), #[]⟩
noncomputable def o129_0 (P : Params) : Obj := ⟨.type "code", none, .fields #[.str "law" 330, .str "law" 331, .str "/claim/cut.py" 332, .int 95 0, .int 1 0, .int 0 0, .int 0 0, .int 3 0, .ref 126, .bool true, .int 181 0, .ref 127, .none, .none, .none, .ref 128, .int 333 0, .int 95 0, .str "/claim/cut.py" 334], #[]⟩
noncomputable def o130_0 (P : Params) : Obj := ⟨.type "function", none, .func (Hd.fD "law" "law" (top 23) 3 [] .none .none .none (.str "law_usualdays_k79_least_meeting_lots" 250) none (.ref 129) .none 0), #[]⟩
noncomputable def TA (P : Params) : BT := (.node (boot_o_0 P) (.node (boot_o_1 P) (.node (boot_o_3 P) (.node (boot_o_7 P) .nil .nil) (.node (o11_0 P) .nil .nil)) (.node (boot_o_5 P) (.node (boot_o_9 P) .nil .nil) (.node (o13_0 P) .nil .nil))) (.node (boot_o_2 P) (.node (boot_o_4 P) (.node (boot_o_8 P) .nil .nil) (.node (o12_0 P) .nil .nil)) (.node (boot_o_6 P) (.node (boot_o_10 P) .nil .nil) (.node (o14_0 P) .nil .nil))))
noncomputable def SA (w : World) (os : OsState) : SharedT := ⟨TA w.params, 15, ⟨[], [], [], 0, [], [], false, #[], [], 0, false, false, false, 0, [2000, 10, 10], false, 0, true, [], [], 0, false⟩, #[], ⟨0, 0, 0, 0⟩, 187, os⟩
noncomputable def TB (P : Params) : BT := (.node (boot_o_0 P) (.node (boot_o_1 P) (.node (boot_o_3 P) (.node (boot_o_7 P) .nil .nil) (.node (o11_0 P) .nil .nil)) (.node (boot_o_5 P) (.node (boot_o_9 P) .nil .nil) (.node (o13_0 P) .nil .nil))) (.node (boot_o_2 P) (.node (boot_o_4 P) (.node (boot_o_8 P) .nil .nil) (.node (o12_0 P) .nil .nil)) (.node (boot_o_6 P) (.node (boot_o_10 P) .nil .nil) (.node (o14_0 P) .nil .nil))))
noncomputable def SB (w : World) (os : OsState) : SharedT := ⟨TB w.params, 15, ⟨[], [], [], 0, [], [], false, #[], [], 0, false, false, false, 0, [2000, 10, 10], false, 0, true, [], [], 0, false⟩, #[], ⟨0, 0, 0, 0⟩, 187, os⟩
noncomputable def TG0 (P : Params) : BT := (.node (boot_o_0 P) (.node (boot_o_1 P) (.node (o3_0 P) (.node (boot_o_7 P) (.node (o15_0 P) (.node (o31_0 P) (.node (o63_0 P) (.node (o127_0 P) .nil .nil) .nil) (.node (o95_0 P) .nil .nil)) (.node (o47_0 P) (.node (o79_0 P) .nil .nil) (.node (o111_0 P) .nil .nil))) (.node (o23_0 P) (.node (o39_0 P) (.node (o71_0 P) .nil .nil) (.node (o103_0 P) .nil .nil)) (.node (o55_0 P) (.node (o87_0 P) .nil .nil) (.node (o119_0 P) .nil .nil)))) (.node (o11_0 P) (.node (o19_0 P) (.node (o35_0 P) (.node (o67_0 P) .nil .nil) (.node (o99_0 P) .nil .nil)) (.node (o51_0 P) (.node (o83_0 P) .nil .nil) (.node (o115_0 P) .nil .nil))) (.node (o27_0 P) (.node (o43_0 P) (.node (o75_0 P) .nil .nil) (.node (o107_0 P) .nil .nil)) (.node (o59_0 P) (.node (o91_0 P) .nil .nil) (.node (o123_0 P) .nil .nil))))) (.node (boot_o_5 P) (.node (boot_o_9 P) (.node (o17_0 P) (.node (o33_0 P) (.node (o65_0 P) (.node (o129_0 P) .nil .nil) .nil) (.node (o97_0 P) .nil .nil)) (.node (o49_0 P) (.node (o81_0 P) .nil .nil) (.node (o113_0 P) .nil .nil))) (.node (o25_0 P) (.node (o41_0 P) (.node (o73_0 P) .nil .nil) (.node (o105_0 P) .nil .nil)) (.node (o57_0 P) (.node (o89_0 P) .nil .nil) (.node (o121_0 P) .nil .nil)))) (.node (o13_0 P) (.node (o21_0 P) (.node (o37_0 P) (.node (o69_0 P) .nil .nil) (.node (o101_0 P) .nil .nil)) (.node (o53_0 P) (.node (o85_0 P) .nil .nil) (.node (o117_0 P) .nil .nil))) (.node (o29_0 P) (.node (o45_0 P) (.node (o77_0 P) .nil .nil) (.node (o109_0 P) .nil .nil)) (.node (o61_0 P) (.node (o93_0 P) .nil .nil) (.node (o125_0 P) .nil .nil)))))) (.node (boot_o_2 P) (.node (boot_o_4 P) (.node (boot_o_8 P) (.node (o16_0 P) (.node (o32_0 P) (.node (o64_0 P) (.node (o128_0 P) .nil .nil) .nil) (.node (o96_0 P) .nil .nil)) (.node (o48_0 P) (.node (o80_0 P) .nil .nil) (.node (o112_0 P) .nil .nil))) (.node (o24_0 P) (.node (o40_0 P) (.node (o72_0 P) .nil .nil) (.node (o104_0 P) .nil .nil)) (.node (o56_0 P) (.node (o88_0 P) .nil .nil) (.node (o120_0 P) .nil .nil)))) (.node (o12_1 P) (.node (o20_0 P) (.node (o36_0 P) (.node (o68_0 P) .nil .nil) (.node (o100_0 P) .nil .nil)) (.node (o52_0 P) (.node (o84_0 P) .nil .nil) (.node (o116_0 P) .nil .nil))) (.node (o28_0 P) (.node (o44_0 P) (.node (o76_0 P) .nil .nil) (.node (o108_0 P) .nil .nil)) (.node (o60_0 P) (.node (o92_0 P) .nil .nil) (.node (o124_0 P) .nil .nil))))) (.node (boot_o_6 P) (.node (boot_o_10 P) (.node (o18_0 P) (.node (o34_0 P) (.node (o66_0 P) (.node (o130_0 P) .nil .nil) .nil) (.node (o98_0 P) .nil .nil)) (.node (o50_0 P) (.node (o82_0 P) .nil .nil) (.node (o114_0 P) .nil .nil))) (.node (o26_0 P) (.node (o42_0 P) (.node (o74_0 P) .nil .nil) (.node (o106_0 P) .nil .nil)) (.node (o58_0 P) (.node (o90_0 P) .nil .nil) (.node (o122_0 P) .nil .nil)))) (.node (o14_0 P) (.node (o22_0 P) (.node (o38_0 P) (.node (o70_0 P) .nil .nil) (.node (o102_0 P) .nil .nil)) (.node (o54_0 P) (.node (o86_0 P) .nil .nil) (.node (o118_0 P) .nil .nil))) (.node (o30_0 P) (.node (o46_0 P) (.node (o78_0 P) .nil .nil) (.node (o110_0 P) .nil .nil)) (.node (o62_0 P) (.node (o94_0 P) .nil .nil) (.node (o126_0 P) .nil .nil)))))))
noncomputable def SG0 (w : World) (os : OsState) : SharedT := ⟨TG0 w.params, 131, ⟨[], [], [], 0, [], [], false, #[], [], 0, false, false, false, 0, [2000, 10, 10], false, 0, true, [], [], 0, false⟩, #[], ⟨0, 0, 0, 0⟩, 336, os⟩
noncomputable def TZ (P : Params) : BT := (.node (boot_o_0 P) (.node (boot_o_1 P) (.node (o3_0 P) (.node (boot_o_7 P) (.node (o15_0 P) (.node (o31_0 P) (.node (o63_0 P) (.node (o127_0 P) .nil .nil) .nil) (.node (o95_0 P) .nil .nil)) (.node (o47_0 P) (.node (o79_0 P) .nil .nil) (.node (o111_0 P) .nil .nil))) (.node (o23_0 P) (.node (o39_0 P) (.node (o71_0 P) .nil .nil) (.node (o103_0 P) .nil .nil)) (.node (o55_0 P) (.node (o87_0 P) .nil .nil) (.node (o119_0 P) .nil .nil)))) (.node (o11_0 P) (.node (o19_0 P) (.node (o35_0 P) (.node (o67_0 P) .nil .nil) (.node (o99_0 P) .nil .nil)) (.node (o51_0 P) (.node (o83_0 P) .nil .nil) (.node (o115_0 P) .nil .nil))) (.node (o27_0 P) (.node (o43_0 P) (.node (o75_0 P) .nil .nil) (.node (o107_0 P) .nil .nil)) (.node (o59_0 P) (.node (o91_0 P) .nil .nil) (.node (o123_0 P) .nil .nil))))) (.node (boot_o_5 P) (.node (boot_o_9 P) (.node (o17_0 P) (.node (o33_0 P) (.node (o65_0 P) (.node (o129_0 P) .nil .nil) .nil) (.node (o97_0 P) .nil .nil)) (.node (o49_0 P) (.node (o81_0 P) .nil .nil) (.node (o113_0 P) .nil .nil))) (.node (o25_0 P) (.node (o41_0 P) (.node (o73_0 P) .nil .nil) (.node (o105_0 P) .nil .nil)) (.node (o57_0 P) (.node (o89_0 P) .nil .nil) (.node (o121_0 P) .nil .nil)))) (.node (o13_0 P) (.node (o21_0 P) (.node (o37_0 P) (.node (o69_0 P) .nil .nil) (.node (o101_0 P) .nil .nil)) (.node (o53_0 P) (.node (o85_0 P) .nil .nil) (.node (o117_0 P) .nil .nil))) (.node (o29_0 P) (.node (o45_0 P) (.node (o77_0 P) .nil .nil) (.node (o109_0 P) .nil .nil)) (.node (o61_0 P) (.node (o93_0 P) .nil .nil) (.node (o125_0 P) .nil .nil)))))) (.node (boot_o_2 P) (.node (boot_o_4 P) (.node (boot_o_8 P) (.node (o16_0 P) (.node (o32_0 P) (.node (o64_0 P) (.node (o128_0 P) .nil .nil) .nil) (.node (o96_0 P) .nil .nil)) (.node (o48_0 P) (.node (o80_0 P) .nil .nil) (.node (o112_0 P) .nil .nil))) (.node (o24_0 P) (.node (o40_0 P) (.node (o72_0 P) .nil .nil) (.node (o104_0 P) .nil .nil)) (.node (o56_0 P) (.node (o88_0 P) .nil .nil) (.node (o120_0 P) .nil .nil)))) (.node (o12_1 P) (.node (o20_0 P) (.node (o36_0 P) (.node (o68_0 P) .nil .nil) (.node (o100_0 P) .nil .nil)) (.node (o52_0 P) (.node (o84_0 P) .nil .nil) (.node (o116_0 P) .nil .nil))) (.node (o28_0 P) (.node (o44_0 P) (.node (o76_0 P) .nil .nil) (.node (o108_0 P) .nil .nil)) (.node (o60_0 P) (.node (o92_0 P) .nil .nil) (.node (o124_0 P) .nil .nil))))) (.node (boot_o_6 P) (.node (boot_o_10 P) (.node (o18_0 P) (.node (o34_0 P) (.node (o66_0 P) (.node (o130_0 P) .nil .nil) .nil) (.node (o98_0 P) .nil .nil)) (.node (o50_0 P) (.node (o82_0 P) .nil .nil) (.node (o114_0 P) .nil .nil))) (.node (o26_0 P) (.node (o42_0 P) (.node (o74_0 P) .nil .nil) (.node (o106_0 P) .nil .nil)) (.node (o58_0 P) (.node (o90_0 P) .nil .nil) (.node (o122_0 P) .nil .nil)))) (.node (o14_0 P) (.node (o22_0 P) (.node (o38_0 P) (.node (o70_0 P) .nil .nil) (.node (o102_0 P) .nil .nil)) (.node (o54_0 P) (.node (o86_0 P) .nil .nil) (.node (o118_0 P) .nil .nil))) (.node (o30_0 P) (.node (o46_0 P) (.node (o78_0 P) .nil .nil) (.node (o110_0 P) .nil .nil)) (.node (o62_0 P) (.node (o94_0 P) .nil .nil) (.node (o126_0 P) .nil .nil)))))))
noncomputable def SZ (w : World) (os : OsState) : SharedT := ⟨TZ w.params, 131, ⟨[], [], [], 0, [], [], false, #[], [], 0, false, false, false, 0, [2000, 10, 10], false, 0, true, [], [], 0, false⟩, #[], ⟨0, 0, 0, 0⟩, 336, os⟩
noncomputable def view : Program := { pE with main := { pE.main with body := [topM 1, topM 2, topM 4, topM 5, topM 6, topM 8, topM 9, topM 10, topM 12, topM 13, topM 14, topM 15, topM 16, topM 17, topM 18, topM 19, topM 20, topM 21, topM 22, topM 23] } }
noncomputable def loose : List Str := []
noncomputable def lv : List (Str × WData) := []

noncomputable def cE : Code := .body (behindTheImports pE) env
noncomputable def sts0 : List Stmt := [top 0, top 1, top 2, top 3, top 4, top 5, top 6, top 7, top 8, top 9, top 10, top 11, top 12, top 13, top 14, top 15, top 16, top 17, top 18, top 19, top 20, top 21, top 22, top 23]
theorem sz_eq (w : World) : (boot_heap w.params).objs.size = 11 := by kernel_rfl
theorem an_eq (w : World) : bootAnn w = ann := by kernel_rfl
theorem pre (w : World) (os : OsState) : topGo treeTable pE w 11 ann 12 ⟨boot_heap w.params, #[], boot_drawn, boot_toks, os⟩ (topStub pE) = some ((SA w os).abs, ⟨denote treeTable cE, cE, posA, [topFrame q0]⟩) := by kernel_rfl
theorem block (w : World) (os : OsState) : segRun treeTable pE w 11 ann 1 1 (SA w os).abs (blockOf (behindTheImports pE) env cE posA [topFrame q0]) = some (.next, (SB w os).abs, cE, posB) := by kernel_rfl
theorem g0 (w : World) (os : OsState) : sgF (stepQ (denQ tabQ) pE w) 11 ann 1 594 (SB w os) (piecesOf sts0 env cE posB [topFrame q0]) = some (.next, SG0 w os, cE, pos0) := by kernel_rfl
theorem fin (w : World) (os : OsState) : goF (stepQ (denQ tabQ) pE w) 11 ann 2 (SG0 w os) ⟨doneF .next, cE, pos0, [topFrame q0]⟩ = some (SZ w os) := by kernel_rfl
theorem app : behindTheImports pE = (sts0 ++ ([] : List Stmt)) := by kernel_rfl
theorem run (w : World) (os : OsState) : topRun treeTable pE w 11 ann (12 + (1 + (594 + 2))) ⟨boot_heap w.params, #[], boot_drawn, boot_toks, os⟩ (topStub pE) = some (SZ w os).abs := by
  refine go_top (n := 12) (pre w os) (piece_block (block w os) ?_)
  rw [app]
  exact piece_app (seg_q (g0 w os)) (piece_nil (fin_q (fin w os)))
theorem open_eq : opening pE = plainProg pE.main.scope.names := by kernel_rfl
theorem fence_eq (s : Shared) : fenceModules? pE s = some s := by kernel_rfl
theorem look1 (w : World) (os : OsState) : looksF pE (boot_heap w.params) (SZ w os).abs = true := by kernel_rfl
noncomputable def Xt : Shared → Bool := fun s => xlAt view lv s && recOk (RowW.records (OpenRow.toRowW (OpenLaw.row PySem.Challenge.rw_usualdays_k79_least_meeting_lots))) s
theorem look2_1 (w : World) (os : OsState) : (seenQ view loose (importedModules pE.main.body) Xt (SZ w os).abs).1 = pr1 (openGood view loose) := by kernel_rfl
theorem look2_2 (w : World) (os : OsState) : (seenQ view loose (importedModules pE.main.body) Xt (SZ w os).abs).2.1 = pr2 (openGood view loose) := by kernel_rfl
theorem look2_3 (w : World) (os : OsState) : (seenQ view loose (importedModules pE.main.body) Xt (SZ w os).abs).2.2.1 = pr3 (openGood view loose) := by kernel_rfl
theorem look2_4 (w : World) (os : OsState) : (seenQ view loose (importedModules pE.main.body) Xt (SZ w os).abs).2.2.2.1 = pr4 (openGood view loose) := by kernel_rfl
theorem look2_5 (w : World) (os : OsState) : (seenQ view loose (importedModules pE.main.body) Xt (SZ w os).abs).2.2.2.2.1 = pr5 (openGood view loose) := by kernel_rfl
theorem look2_6 (w : World) (os : OsState) : (seenQ view loose (importedModules pE.main.body) Xt (SZ w os).abs).2.2.2.2.2.1 = pr6 (openGood view loose) := by kernel_rfl
theorem look2_7 (w : World) (os : OsState) : (seenQ view loose (importedModules pE.main.body) Xt (SZ w os).abs).2.2.2.2.2.2.1 = pr7 (openGood view loose) := by kernel_rfl
theorem look2_8 (w : World) (os : OsState) : (seenQ view loose (importedModules pE.main.body) Xt (SZ w os).abs).2.2.2.2.2.2.2.1 = pr8 (openGood view loose) := by kernel_rfl
theorem look2_9 (w : World) (os : OsState) : (seenQ view loose (importedModules pE.main.body) Xt (SZ w os).abs).2.2.2.2.2.2.2.2 = pr9 (openGood view loose) := by kernel_rfl
theorem look2 (w : World) (os : OsState) : seenQ view loose (importedModules pE.main.body) Xt (SZ w os).abs = openGood view loose := p9 (look2_1 w os) (look2_2 w os) (look2_3 w os) (look2_4 w os) (look2_5 w os) (look2_6 w os) (look2_7 w os) (look2_8 w os) (look2_9 w os)
end Hd
local macro_rules
  | `(tactic| refine $f:ident $_*) => if f.getId.eraseMacroScopes == `HeadRun.left_oneK then `(tactic| refine Hd.left_cut (M := (12 + (1 + (594 + 2)))) Hd.SZ Hd.an_eq Hd.sz_eq Hd.run Hd.open_eq (by rfl) Hd.fence_eq (by rfl) Hd.look1 Hd.look2 (fun w os => by kernel_rfl) ?_) else Lean.Macro.throwUnsupported
set_option Elab.async false
set_option maxRecDepth 100000
set_option maxHeartbeats 4000000
set_option linter.all false
set_option autoImplicit false
/-! TW0: programs of plain values (W), what stands for them in the heap (Pa, Py), states and their steps -/
namespace TW
open PySem L2

/-! ### programs of plain values -/
/-- what an exception bears -/
inductive D where
  | non | bl (b : Bool) | int (i : Int) | str (s : Str) | lst (xs : List D) | tup (xs : List D) | ob (n : Nat)
structure Exn where
  cls : Nat
  fs : List (Str × D)
/-- a program that gives an α: what must hold so that P holds of what it gives, E of what it raises -/
structure W (α : Type) where
  run : (α → Prop) → (Exn → Prop) → Prop
  mono : ∀ {P Q : α → Prop} {E F : Exn → Prop}, (∀ a, P a → Q a) → (∀ e, E e → F e) → run P E → run Q F
namespace W
def ret {α : Type} (a : α) : W α := ⟨fun P _ => P a, fun h _ => h a⟩
def bnd {α β : Type} (m : W α) (f : α → W β) : W β := ⟨fun P E => m.run (fun a => (f a).run P E) E, fun h k => m.mono (fun a => (f a).mono h k) k⟩
def need (p : Prop) : W Unit := ⟨fun P _ => p ∧ P (), fun h _ ⟨x, y⟩ => ⟨x, h _ y⟩⟩
def pick {α : Type} (S : α → Prop) : W α := ⟨fun P _ => ∀ a, S a → P a, fun h _ x a s => h a (x a s)⟩
def thr {α : Type} (e : Exn) : W α := ⟨fun _ E => E e, fun _ k => k e⟩
def fail {α : Type} : W α := ⟨fun _ _ => False, fun _ _ x => x⟩
instance : Monad W where
  pure := ret
  bind := bnd
end W
section
variable {α β : Type} {P : α → Prop} {E : Exn → Prop}
@[simp] theorem run_pure (a : α) : (pure a : W α).run P E = P a := rfl
@[simp] theorem run_bind (m : W β) (f : β → W α) : (m >>= f).run P E = m.run (fun b => (f b).run P E) E := rfl
@[simp] theorem run_need (p : Prop) (Q : Unit → Prop) : (W.need p).run Q E = (p ∧ Q ()) := rfl
@[simp] theorem run_pick (S : α → Prop) : (W.pick S).run P E = ∀ a, S a → P a := rfl
@[simp] theorem run_thr (e : Exn) : (W.thr e : W α).run P E = E e := rfl
@[simp] theorem run_fail : (W.fail : W α).run P E = False := rfl
theorem W.ext {m n : W α} (h : m.run = n.run) : m = n := by cases m; cases n; cases h; rfl
@[simp] theorem pure_bnd (a : β) (f : β → W α) : (pure a >>= f) = f a := rfl
@[simp] theorem bnd_pure (m : W α) : (m >>= pure) = m := rfl
@[simp] theorem bnd_assoc {γ : Type} (m : W γ) (f : γ → W β) (g : β → W α) : (m >>= f) >>= g = m >>= fun x => f x >>= g := rfl
@[simp] theorem ite_run {c : Prop} [Decidable c] (m n : W α) : (if c then m else n).run P E = if c then m.run P E else n.run P E := by split <;> rfl
end

/-! ### states -/
/-- B: the bags; M: what may change (the bags; lists and objects that a def owns) -/
structure Av where
  B : Addr → Prop
  M : Addr → Prop
def Av.add (A : Av) (p : Addr) : Av := ⟨A.B, fun q => A.M q ∨ q = p⟩
def Av.addB (A : Av) (p : Addr) : Av := ⟨fun q => A.B q ∨ q = p, fun q => A.M q ∨ q = p⟩
def Av.del (A : Av) (p : Addr) : Av := ⟨A.B, fun q => A.M q ∧ q ≠ p⟩
/-- a bag: the digits left, the mix, the turns -/
def BagO (o : HO) : Prop := ∃ c m n : Int, o = .lst [.int c, .int m, .int n] ∧ 0 ≤ c ∧ 0 ≤ m ∧ m < 2 ^ 40 ∧ 0 ≤ n
structure Dom (A : Av) (H : Hp) : Prop where
  m : ∀ p, A.M p → H p ≠ none
  b : ∀ p, A.B p → ∃ o, H p = some o ∧ BagO o
  s : ∀ p, A.B p → A.M p
/-- what does not lean on M is as it was -/
structure Mv (A : Av) (H : Hp) (A' : Av) (H' : Hp) : Prop where
  m : ∀ p, A'.M p → A.M p ∨ H p = none
  k : ∀ a o, ¬ A.M a → H a = some o → H' a = some o
  b : ∀ p, A.B p → A'.B p ∧ ∃ o, H' p = some o ∧ BagO o
/-- a step: nothing but the bags has changed -/
structure St (A : Av) (H : Hp) (A' : Av) (H' : Hp) : Prop where
  ms : ∀ p, A.M p → A'.M p
  bs : ∀ p, A.B p → A'.B p
  nm : ∀ p, A'.M p → A.M p ∨ H p = none
  nb : ∀ p, A'.B p → A.B p ∨ H p = none
  k : ∀ a o, ¬ A.B a → H a = some o → H' a = some o
  d : Dom A' H'
section
variable {A A' A'' : Av} {H H' H'' : Hp} {p : Addr} {o : HO}
theorem St.refl (d : Dom A H) : St A H A H := ⟨fun _ h => h, fun _ h => h, fun _ h => .inl h, fun _ h => .inl h, fun _ _ _ h => h, d⟩
theorem St.none (s : St A H A' H') (h : H' p = .none) : H p = .none := by
  cases q : H p with
  | none => rfl
  | some o =>
    by_cases b : A.B p
    · obtain ⟨o, e, _⟩ := s.d.b p (s.bs p b)
      rw [e] at h; cases h
    · rw [s.k p o b q] at h; cases h
theorem St.trans (s : St A H A' H') (t : St A' H' A'' H'') : St A H A'' H'' where
  ms := fun p h => t.ms p (s.ms p h)
  bs := fun p h => t.bs p (s.bs p h)
  nm := fun p h => (t.nm p h).elim (s.nm p) fun e => .inr (s.none e)
  nb := fun p h => (t.nb p h).elim (s.nb p) fun e => .inr (s.none e)
  k := fun a o n e => t.k a o (fun b => (s.nb a b).elim n fun z => by rw [z] at e; cases e) (s.k a o n e)
  d := t.d
theorem St.mv (d : Dom A H) (s : St A H A' H') : Mv A H A' H' :=
  ⟨s.nm, fun a o n e => s.k a o (fun b => n (d.s a b)) e, fun p b => ⟨s.bs p b, s.d.b p (s.bs p b)⟩⟩
theorem Mv.refl (d : Dom A H) : Mv A H A H := (St.refl d).mv d
/-- a new object -/
theorem Dom.ne {q : Addr} (d : Dom A H) (m : A.M q) (n : H p = .none) : q ≠ p := fun e => d.m q m (by rw [e]; exact n)
theorem Dom.nm (d : Dom A H) (n : H p = .none) : ¬ A.M p := fun m => d.m p m n
theorem Dom.new (d : Dom A H) (n : H p = .none) : Dom A (upd H p o) :=
  ⟨fun q m => by rw [upd_ne (d.ne m n)]; exact d.m q m, fun q b => by rw [upd_ne (d.ne (d.s q b) n)]; exact d.b q b, d.s⟩
theorem St.new (d : Dom A H) (n : H p = .none) : St A H A (upd H p o) :=
  ⟨fun _ h => h, fun _ h => h, fun _ h => .inl h, fun _ h => .inl h, fun a u _ e => by rw [upd_ne (ne_of_none e n)]; exact e, d.new n⟩
theorem Dom.newM (d : Dom A H) (n : H p = .none) : Dom (A.add p) (upd H p o) where
  m := fun q m => by
    rcases m with m | rfl
    · rw [upd_ne (d.ne m n)]; exact d.m q m
    · rw [upd_same]; exact nofun
  b := fun q b => by rw [upd_ne (d.ne (d.s q b) n)]; exact d.b q b
  s := fun q b => .inl (d.s q b)
theorem St.newM (d : Dom A H) (n : H p = .none) : St A H (A.add p) (upd H p o) :=
  ⟨fun _ h => .inl h, fun _ h => h, fun q h => h.elim .inl fun e => .inr (by rw [e]; exact n), fun _ h => .inl h, fun a u _ e => by rw [upd_ne (ne_of_none e n)]; exact e, d.newM n⟩
theorem Dom.newB (d : Dom A H) (n : H p = .none) (hb : BagO o) : Dom (A.addB p) (upd H p o) where
  m := fun q m => by
    rcases m with m | rfl
    · rw [upd_ne (d.ne m n)]; exact d.m q m
    · rw [upd_same]; exact nofun
  b := fun q b => by
    rcases b with b | rfl
    · rw [upd_ne (d.ne (d.s q b) n)]; exact d.b q b
    · exact ⟨o, upd_same, hb⟩
  s := fun q b => b.elim (fun b => .inl (d.s q b)) .inr
theorem St.newB (d : Dom A H) (n : H p = .none) (hb : BagO o) : St A H (A.addB p) (upd H p o) :=
  ⟨fun _ h => .inl h, fun _ h => .inl h, fun q h => h.elim .inl fun e => .inr (by rw [e]; exact n), fun q h => h.elim .inl fun e => .inr (by rw [e]; exact n), fun a u _ e => by rw [upd_ne (ne_of_none e n)]; exact e, d.newB n hb⟩
/-- a bag is turned -/
theorem St.bag (d : Dom A H) (b : A.B p) (hb : BagO o) : St A H A (upd H p o) :=
  ⟨fun _ h => h, fun _ h => h, fun _ h => .inl h, fun _ h => .inl h, fun a u n e => by rw [upd_ne (b := a) fun z => n (by rw [z]; exact b)]; exact e,
    ⟨fun q m => by
      by_cases e : q = p
      · rw [e, upd_same]; exact nofun
      · rw [upd_ne e]; exact d.m q m, fun q m => by
      by_cases e : q = p
      · rw [e]; exact ⟨o, upd_same, hb⟩
      · rw [upd_ne e]; exact d.b q m, d.s⟩⟩
/-- an owned object is changed -/
theorem Dom.chg (d : Dom A H) (m : A.M p) (b : ¬ A.B p) : Dom A (upd H p o) where
  m := fun q hq => by
    by_cases e : q = p
    · subst e; rw [upd_same]; exact nofun
    · rw [upd_ne e]; exact d.m q hq
  b := fun q hq => by
    have e : q ≠ p := fun e => b (by rw [← e]; exact hq)
    rw [upd_ne e]; exact d.b q hq
  s := d.s
theorem Mv.chg (d : Dom A H) (m : A.M p) (b : ¬ A.B p) : Mv A H A (upd H p o) :=
  ⟨fun _ h => .inl h, fun a u n e => by rw [upd_ne (b := a) fun z => n (by rw [z]; exact m)]; exact e, fun q hq => ⟨hq, (d.chg m b).b q hq⟩⟩
/-- St where an owned object of ours, not there at the beginning, is changed -/
theorem St.chg (s : St A H A' H') (n : H p = .none) (m : A'.M p) (b : ¬ A'.B p) : St A H A' (upd H' p o) :=
  ⟨s.ms, s.bs, s.nm, s.nb, fun a u nb e => by rw [upd_ne (ne_of_none e n)]; exact s.k a u nb e, s.d.chg m b⟩
/-- .. or is let go -/
theorem Dom.del (d : Dom A H) (b : ¬ A.B p) : Dom (A.del p) H := ⟨fun q h => d.m q h.1, d.b, fun q h => ⟨d.s q h, fun e => b (by rw [← e]; exact h)⟩⟩
theorem Mv.del (d : Dom A H) : Mv A H (A.del p) H := ⟨fun _ h => .inl h.1, fun _ _ _ e => e, fun q h => ⟨h, d.b q h⟩⟩
theorem St.del (s : St A H A' H') (d : Dom A H) (n : H p = .none) (b : ¬ A'.B p) : St A H (A'.del p) H' :=
  ⟨fun q h => ⟨s.ms q h, d.ne h n⟩, s.bs, fun q h => s.nm q h.1, s.nb, s.k, s.d.del b⟩
end

/-! ### what stands for a value -/
structure Gx where
  K : PySem.W.Frag
  cls : Nat → Addr
class Pa (α : Type) where
  rep : Gx → Av → Hp → V → α → Prop
  st : ∀ {G A H A' H' v a}, rep G A H v a → Dom A H → St A H A' H' → rep G A' H' v a
class Py (α : Type) extends Pa α where
  mv : ∀ {G A H A' H' v a}, rep G A H v a → Mv A H A' H' → rep G A' H' v a
open Pa (rep)
universe u v
inductive All2 {α : Type u} {β : Type v} (R : α → β → Prop) : List α → List β → Prop
  | nil : All2 R [] []
  | cons {a b l m} : R a b → All2 R l m → All2 R (a :: l) (b :: m)
section
variable {α : Type u} {β : Type v} {R S : α → β → Prop}
theorem All2.imp (h : ∀ a b, R a b → S a b) : ∀ {l : List α} {m : List β}, All2 R l m → All2 S l m
  | _, _, .nil => .nil
  | _, _, .cons r t => .cons (h _ _ r) (All2.imp h t)
theorem All2.len : ∀ {l : List α} {m : List β}, All2 R l m → l.length = m.length
  | _, _, .nil => rfl
  | _, _, .cons _ t => congrArg (· + 1) t.len
theorem All2.app : ∀ {l l' : List α} {m m' : List β}, All2 R l m → All2 R l' m' → All2 R (l ++ l') (m ++ m')
  | _, _, _, _, .nil, s => s
  | _, _, _, _, .cons r t, s => .cons r (t.app s)
theorem All2.get : ∀ {l : List α} {m : List β} (i : Nat) {b : β}, All2 R l m → m[i]? = some b → ∃ a, l[i]? = some a ∧ R a b
  | _, _, i, _, .nil, e => by simp at e
  | _, _, 0, _, .cons r _, e => by simp at e; subst e; exact ⟨_, rfl, r⟩
  | _, _, i + 1, _, .cons _ t, e => by
    obtain ⟨a, h1, h2⟩ := t.get i (by simpa using e)
    exact ⟨a, by simpa using h1, h2⟩
theorem All2.set {a : α} {b : β} (r : R a b) : ∀ {l : List α} {m : List β} (i : Nat), All2 R l m → All2 R (l.set i a) (m.set i b)
  | _, _, _, .nil => .nil
  | _, _, 0, .cons _ t => .cons r t
  | _, _, i + 1, .cons q t => .cons q (t.set r i)
theorem All2.take : ∀ {l : List α} {m : List β} (n : Nat), All2 R l m → All2 R (l.take n) (m.take n)
  | _, _, 0, _ => .nil
  | _, _, _ + 1, .nil => .nil
  | _, _, n + 1, .cons r t => .cons r (t.take n)
theorem All2.drop : ∀ {l : List α} {m : List β} (n : Nat), All2 R l m → All2 R (l.drop n) (m.drop n)
  | _, _, 0, r => r
  | _, _, _ + 1, .nil => .nil
  | _, _, n + 1, .cons _ t => t.drop n
theorem All2.map_eq (f : β → α) (h : ∀ a b, R a b → a = f b) : ∀ {l : List α} {m : List β}, All2 R l m → l = m.map f
  | _, _, .nil => rfl
  | _, _, .cons r t => by rw [List.map_cons, ← h _ _ r, ← t.map_eq f h]
end
instance : Py Int where
  rep := fun _ _ _ v i => v = .int i
  st := fun h _ _ => h
  mv := fun h _ => h
instance : Py Bool where
  rep := fun _ _ _ v i => v = .bl i
  st := fun h _ _ => h
  mv := fun h _ => h
instance : Py Str where
  rep := fun _ _ _ v i => v = .str i
  st := fun h _ _ => h
  mv := fun h _ => h
instance : Py Unit where
  rep := fun _ _ _ v _ => v = .non
  st := fun h _ _ => h
  mv := fun h _ => h
instance {α : Type} [Py α] : Py (Option α) where
  rep := fun G A H v o => match o with | none => v = .non | some a => v ≠ .non ∧ rep G A H v a
  st := fun {G A H A' H' v a} h d s => match a, h with | none, h => h | some _, h => ⟨h.1, Pa.st h.2 d s⟩
  mv := fun {G A H A' H' v a} h s => match a, h with | none, h => h | some _, h => ⟨h.1, Py.mv h.2 s⟩
/-- the list at p: kept or written -/
def AtL (A : Av) (H : Hp) (p : Addr) (vs : List V) : Prop := ¬ A.M p ∧ H p = some (.lst vs)
def AtS (G : Gx) (A : Av) (H : Hp) (p : Addr) (vs : List V) : Prop := (¬ A.M p ∧ Rd H p (.lst vs)) ∨ SqL G.K (fun _ => none) p vs
def AtT (G : Gx) (A : Av) (H : Hp) (p : Addr) (vs : List V) : Prop := (¬ A.M p ∧ H p = some (.tup vs)) ∨ SqT G.K (fun _ => none) p vs
section
variable {G : Gx} {A A' : Av} {H H' : Hp} {p : Addr} {vs : List V} {u : HO}
theorem rd_mv (h : Rd H p u) (k : ∀ o, H p = some o → H' p = some o) : Rd H' p u := h.elim (fun e => .inl (k _ e)) fun ⟨o, e⟩ => .inr ⟨o, k _ e⟩
theorem rd_ne (h : Rd H p u) : H p ≠ none := by
  rcases h with e | ⟨o, e⟩ <;> rw [e] <;> exact nofun
theorem sql_kp (h : SqL G.K (fun _ => none) p vs) : SqL G.K H p vs := by
  rcases h with (h | ⟨_, h⟩) | h
  · cases h
  · cases h
  · exact .inr h
theorem sqt_kp (h : SqT G.K (fun _ => none) p vs) : SqT G.K H p vs := by
  rcases h with (h | ⟨_, h⟩) | h
  · cases h
  · cases h
  · exact .inr h
theorem AtL.sq {K : PySem.W.Frag} (h : AtL A H p vs) : SqL K H p vs := .inl (.inl h.2)
theorem AtS.sq (h : AtS G A H p vs) : SqL G.K H p vs := h.elim (fun h => .inl h.2) sql_kp
theorem AtT.sq (h : AtT G A H p vs) : SqT G.K H p vs := h.elim (fun h => .inl (.inl h.2)) sqt_kp
theorem AtL.mv (h : AtL A H p vs) (s : Mv A H A' H') : AtL A' H' p vs := ⟨fun m => (s.m p m).elim h.1 (fun z => by rw [h.2] at z; cases z), s.k p _ h.1 h.2⟩
theorem AtS.mv (h : AtS G A H p vs) (s : Mv A H A' H') : AtS G A' H' p vs := by
  rcases h with ⟨n, h⟩ | h
  · exact .inl ⟨fun m => (s.m p m).elim n (rd_ne h), rd_mv h fun o e => s.k p o n e⟩
  · exact .inr h
theorem AtT.mv (h : AtT G A H p vs) (s : Mv A H A' H') : AtT G A' H' p vs := by
  rcases h with ⟨n, h⟩ | h
  · exact .inl ⟨fun m => (s.m p m).elim n (fun z => by rw [h] at z; cases z), s.k p _ n h⟩
  · exact .inr h
end
instance {α : Type} [Py α] : Py (List α) where
  rep := fun G A H v xs => ∃ p vs, v = .ref p ∧ AtL A H p vs ∧ All2 (rep G A H) vs xs
  st := fun ⟨p, vs, e, h, k⟩ d s => ⟨p, vs, e, h.mv (s.mv d), k.imp fun _ _ r => Py.mv r (s.mv d)⟩
  mv := fun ⟨p, vs, e, h, k⟩ s => ⟨p, vs, e, h.mv s, k.imp fun _ _ r => Py.mv r s⟩
/-- tuples of one kind of items -/
structure Tup (α : Type) where
  l : List α
  deriving DecidableEq
instance {α : Type} [Py α] : Py (Tup α) where
  rep := fun G A H v xs => ∃ p vs, v = .ref p ∧ AtT G A H p vs ∧ All2 (rep G A H) vs xs.l
  st := fun ⟨p, vs, e, h, k⟩ d s => ⟨p, vs, e, h.mv (s.mv d), k.imp fun _ _ r => Py.mv r (s.mv d)⟩
  mv := fun ⟨p, vs, e, h, k⟩ s => ⟨p, vs, e, h.mv s, k.imp fun _ _ r => Py.mv r s⟩
structure T2 (α β : Type) where
  a : α
  b : β
  deriving DecidableEq
structure T3 (α β γ : Type) where
  a : α
  b : β
  c : γ
  deriving DecidableEq
instance {α β : Type} [Py α] [Py β] : Py (T2 α β) where
  rep := fun G A H v t => ∃ p x y, v = .ref p ∧ AtT G A H p [x, y] ∧ rep G A H x t.a ∧ rep G A H y t.b
  st := fun ⟨p, x, y, e, h, h1, h2⟩ d s => ⟨p, x, y, e, h.mv (s.mv d), Pa.st h1 d s, Pa.st h2 d s⟩
  mv := fun ⟨p, x, y, e, h, h1, h2⟩ s => ⟨p, x, y, e, h.mv s, Py.mv h1 s, Py.mv h2 s⟩
instance {α β γ : Type} [Py α] [Py β] [Py γ] : Py (T3 α β γ) where
  rep := fun G A H v t => ∃ p x y z, v = .ref p ∧ AtT G A H p [x, y, z] ∧ rep G A H x t.a ∧ rep G A H y t.b ∧ rep G A H z t.c
  st := fun ⟨p, x, y, z, e, h, h1, h2, h3⟩ d s => ⟨p, x, y, z, e, h.mv (s.mv d), Pa.st h1 d s, Pa.st h2 d s, Pa.st h3 d s⟩
  mv := fun ⟨p, x, y, z, e, h, h1, h2, h3⟩ s => ⟨p, x, y, z, e, h.mv s, Py.mv h1 s, Py.mv h2 s, Py.mv h3 s⟩
/-- a bag, as a value -/
structure Bag where
instance : Py Bag where
  rep := fun _ A H v _ => ∃ p, v = .ref p ∧ A.B p ∧ ∃ o, H p = some o ∧ BagO o
  st := fun ⟨p, e, b, _⟩ _ s => ⟨p, e, s.bs p b, s.d.b p (s.bs p b)⟩
  mv := fun ⟨p, e, b, _⟩ s => ⟨p, e, (s.b p b).1, (s.b p b).2⟩
/-- a list that is read, not kept -/
structure Bor (α : Type) where
  l : List α
instance {α : Type} [Py α] : Pa (Bor α) where
  rep := fun G A H v xs => ∃ p vs, v = .ref p ∧ (¬ A.B p ∧ H p = some (.lst vs)) ∧ All2 (rep G A H) vs xs.l
  st := fun ⟨p, vs, e, ⟨n, h⟩, k⟩ d s => ⟨p, vs, e, ⟨fun b => (s.nb p b).elim n (fun z => by rw [h] at z; cases z), s.k p _ n h⟩, k.imp fun _ _ r => Pa.st r d s⟩
/-- the script -/
structure Scr where
  l : List Int
instance : Py Scr where
  rep := fun G A H v xs => ∃ p, v = .ref p ∧ AtS G A H p (xs.l.map V.int)
  st := fun ⟨p, e, h⟩ d s => ⟨p, e, h.mv (s.mv d)⟩
  mv := fun ⟨p, e, h⟩ s => ⟨p, e, h.mv s⟩
/-! ### values of any kind -/
mutual
def repD (G : Gx) (A : Av) (H : Hp) : D → V → Prop
  | .non => fun v => v = .non
  | .bl b => fun v => v = .bl b
  | .int i => fun v => v = .int i
  | .str s => fun v => v = .str s
  | .lst xs => fun v => ∃ p vs, v = .ref p ∧ AtL A H p vs ∧ repDs G A H xs vs
  | .tup xs => fun v => ∃ p vs, v = .ref p ∧ AtT G A H p vs ∧ repDs G A H xs vs
  | .ob n => fun v => ∃ a dx ws, v = .ref a ∧ ¬ A.M a ∧ H a = some (.ins (G.cls n) dx ws)
def repDs (G : Gx) (A : Av) (H : Hp) : List D → List V → Prop
  | [] => fun vs => vs = []
  | x :: xs => fun vs => ∃ v r, vs = v :: r ∧ repD G A H x v ∧ repDs G A H xs r
end
theorem repDs_iff {G : Gx} {A : Av} {H : Hp} : ∀ (xs : List D) (vs : List V), repDs G A H xs vs ↔ All2 (fun v x => repD G A H x v) vs xs
  | [], vs => ⟨fun h => by rw [show vs = [] from by simpa [repDs] using h]; exact .nil, fun h => by cases h; simp [repDs]⟩
  | x :: xs, vs => by
    constructor
    · intro h
      unfold repDs at h
      obtain ⟨v, r, e, h1, h2⟩ := h
      rw [e]
      exact .cons h1 ((repDs_iff xs r).mp h2)
    · intro h
      cases h with
      | cons r t =>
        unfold repDs
        exact ⟨_, _, rfl, r, (repDs_iff xs _).mpr t⟩
mutual
theorem repD_mv {G : Gx} {A A' : Av} {H H' : Hp} (m : Mv A H A' H') : ∀ (d : D) (v : V), repD G A H d v → repD G A' H' d v
  | .non, v, h => by unfold repD at h ⊢; exact h
  | .bl b, v, h => by unfold repD at h ⊢; exact h
  | .int i, v, h => by unfold repD at h ⊢; exact h
  | .str s, v, h => by unfold repD at h ⊢; exact h
  | .lst xs, v, h => by
    unfold repD at h ⊢
    obtain ⟨p, vs, e, h1, h2⟩ := h
    exact ⟨p, vs, e, h1.mv m, repDs_mv m xs vs h2⟩
  | .tup xs, v, h => by
    unfold repD at h ⊢
    obtain ⟨p, vs, e, h1, h2⟩ := h
    exact ⟨p, vs, e, h1.mv m, repDs_mv m xs vs h2⟩
  | .ob n, v, h => by
    unfold repD at h ⊢
    obtain ⟨a, dx, ws, e, h1, h2⟩ := h
    exact ⟨a, dx, ws, e, fun z => (m.m a z).elim h1 (fun z => by rw [h2] at z; cases z), m.k a _ h1 h2⟩
theorem repDs_mv {G : Gx} {A A' : Av} {H H' : Hp} (m : Mv A H A' H') : ∀ (ds : List D) (vs : List V), repDs G A H ds vs → repDs G A' H' ds vs
  | [], vs, h => by unfold repDs at h ⊢; exact h
  | x :: xs, vs, h => by
    unfold repDs at h ⊢
    obtain ⟨v, r, e, h1, h2⟩ := h
    exact ⟨v, r, e, repD_mv m x v h1, repDs_mv m xs r h2⟩
end
instance : Py D where
  rep := fun G A H v d => repD G A H d v
  st := fun h d s => repD_mv (s.mv d) _ _ h
  mv := fun h m => repD_mv m _ _ h
/-- what may not be there -/
def W.get {α : Type} (o : Option α) : W α := ⟨fun P _ => ∃ a, o = some a ∧ P a, fun h _ ⟨a, e, p⟩ => ⟨a, e, h a p⟩⟩
@[simp] theorem run_get {α : Type} (o : Option α) (P : α → Prop) (E : Exn → Prop) : (W.get o).run P E = ∃ a, o = some a ∧ P a := rfl
@[simp] theorem get_some {α : Type} (a : α) : W.get (some a) = pure a := by
  apply W.ext
  funext P E
  simp [W.get]
/-- nothing is raised -/
def W.q {α : Type} (m : W α) : W α := ⟨fun P _ => m.run P fun _ => False, fun h _ => m.mono h fun _ h => h⟩
@[simp] theorem q_run {α : Type} (m : W α) (P : α → Prop) (E : Exn → Prop) : m.q.run P E = m.run P fun _ => False := rfl
@[simp] theorem q_pure {α : Type} (a : α) : (pure a : W α).q = pure a := rfl
end TW
set_option Elab.async false
set_option maxRecDepth 100000
set_option maxHeartbeats 4000000
set_option linter.all false
set_option autoImplicit false
/-! TW1: slots, judgements, expressions -/
namespace TW
open Pa (rep)
open PySem L2

/-! ### slots -/
/-- an attribute -/
structure Fd : Type 1 where
  f : Str
  α : Type
  i : Py α
  a : α
def FdR (G : Gx) (A : Av) (H : Hp) (p : Str × V) (q : Fd) : Prop := p.1 = q.f ∧ q.i.rep G A H p.2 q.a
inductive Sl : Type 1 where
  | un
  | fx (α : Type) [Py α] (a : α)
  | bo (α : Type) [Py α] (xs : List α)
  | mu (α : Type) [Py α] (xs : List α)
  | mp (α : Type) [Py α] (p : Addr) (xs : List α)
  | ob (C : Nat) (p : Addr) (fs : List Fd)
def Sl.own : Sl → Bool
  | @Sl.mu _ _ _ => true
  | @Sl.mp _ _ _ _ => true
  | .ob _ _ _ => true
  | _ => false
/-- the object of our own -/
def OwR (G : Gx) (A : Av) (H : Hp) (p : Addr) (o : HO) : Sl → Prop
  | @Sl.mu α _ xs => ∃ vs, o = .lst vs ∧ All2 (rep G A H) vs xs
  | @Sl.mp α _ q xs => p = q ∧ ∃ vs, o = .lst vs ∧ All2 (rep G A H) vs xs
  | .ob C q fs => p = q ∧ ∃ dx ws, o = .ins (G.cls C) dx ws ∧ All2 (FdR G A H) ws fs
  | _ => False
def OwnAt (G : Gx) (H0 : Hp) (A : Av) (H : Hp) (o : Option V) (s : Sl) : Prop := ∃ p ho, o = some (.ref p) ∧ A.M p ∧ ¬ A.B p ∧ H0 p = none ∧ H p = some ho ∧ OwR G A H p ho s
theorem OwR.mv {G : Gx} {A A' : Av} {H H' : Hp} {p : Addr} {o : HO} {s : Sl} (h : OwR G A H p o s) (m : Mv A H A' H') : OwR G A' H' p o s := by
  cases s with
  | @mu α i xs => obtain ⟨vs, e, k⟩ := h; exact ⟨vs, e, k.imp fun _ _ r => Py.mv r m⟩
  | @mp α i q xs => obtain ⟨ep, vs, e, k⟩ := h; exact ⟨ep, vs, e, k.imp fun _ _ r => Py.mv r m⟩
  | ob C q fs => obtain ⟨ep, dx, ws, e, k⟩ := h; exact ⟨ep, dx, ws, e, k.imp fun _ q r => ⟨r.1, q.i.mv r.2 m⟩⟩
  | _ => exact (show False from h).elim
def SlR (G : Gx) (A0 : Av) (H0 : Hp) (A : Av) (H : Hp) (o : Option V) : Sl → Prop
  | .un => True
  | @Sl.fx α _ a => ∃ v, o = some v ∧ rep G A H v a
  | @Sl.bo α _ xs => ∃ v p vs, o = some v ∧ v = .ref p ∧ (¬ A0.B p ∧ H0 p = some (.lst vs)) ∧ All2 (rep G A H) vs xs
  | s@(@Sl.mu _ _ _) => OwnAt G H0 A H o s
  | s@(@Sl.mp _ _ _ _) => OwnAt G H0 A H o s
  | s@(.ob _ _ _) => OwnAt G H0 A H o s
structure Cxt where
  G : Gx
  A0 : Av
  H0 : Hp
  E : XK
  Er : Exn → Prop
/-- an exception, as it flies -/
def ExR (G : Gx) (A : Av) (H : Hp) (e : Exn) (cls : Value) (d : Option Addr) : Prop :=
  cls = .ref (G.cls e.cls) ∧ match e.fs with
    | [] => d = none
    | fs => ∃ dx vs, d = some dx ∧ ¬ A.M dx ∧ H dx = some (.xd vs) ∧ All2 (fun (p : Str × V) (q : Str × D) => p.1 = q.1 ∧ rep G A H p.2 q.2) vs fs
structure Iv (Γ : Cxt) (A : Av) (H : Hp) (σ : L2.St) (δ : List Sl) : Prop where
  len : σ.length = δ.length
  at_ : ∀ (i : Nat) (s : Sl), δ[i]? = some s → ∃ o, σ[i]? = some o ∧ SlR Γ.G Γ.A0 Γ.H0 A H o s
  sep : ∀ (i j : Nat) (s t : Sl) (p : Addr), i ≠ j → δ[i]? = some s → δ[j]? = some t → s.own = true → t.own = true → σ[i]? = some (some (.ref p)) → σ[j]? = some (some (.ref p)) → False
  d0 : Dom Γ.A0 Γ.H0
  st : St Γ.A0 Γ.H0 A H
  er : ∀ e cls d A' H', Γ.Er e → St Γ.A0 Γ.H0 A' H' → ExR Γ.G A' H' e cls d → Γ.E cls d H'
section
variable {Γ : Cxt} {G : Gx} {A A' A0 : Av} {H H' H0 : Hp} {σ : L2.St} {δ : List Sl} {i : Nat} {o : Option V} {s : Sl}
theorem SlR.step (h : SlR G A0 H0 A H o s) (d : Dom A H) (t : St A H A' H') : SlR G A0 H0 A' H' o s := by
  cases s with
  | un => trivial
  | @fx α i a => obtain ⟨v, e, r⟩ := h; exact ⟨v, e, Pa.st r d t⟩
  | @bo α i xs => obtain ⟨v, p, vs, e, e2, r, k⟩ := h; exact ⟨v, p, vs, e, e2, r, k.imp fun _ _ r => Pa.st r d t⟩
  | @mu α i xs =>
    obtain ⟨p, ho, e, m, b, n, h, k⟩ := h
    exact ⟨p, ho, e, t.ms p m, fun z => (t.nb p z).elim b (fun y => by rw [y] at h; cases h), n, t.k p _ b h, k.mv (t.mv d)⟩
  | @mp α i q xs =>
    obtain ⟨p, ho, e, m, b, n, h, k⟩ := h
    exact ⟨p, ho, e, t.ms p m, fun z => (t.nb p z).elim b (fun y => by rw [y] at h; cases h), n, t.k p _ b h, k.mv (t.mv d)⟩
  | ob C q fs =>
    obtain ⟨p, ho, e, m, b, n, h, k⟩ := h
    exact ⟨p, ho, e, t.ms p m, fun z => (t.nb p z).elim b (fun y => by rw [y] at h; cases h), n, t.k p _ b h, k.mv (t.mv d)⟩
theorem Iv.dom (I : Iv Γ A H σ δ) : Dom A H := I.st.d
theorem Iv.step (I : Iv Γ A H σ δ) (t : St A H A' H') : Iv Γ A' H' σ δ :=
  ⟨I.len, fun i s e => let ⟨o, h, r⟩ := I.at_ i s e; ⟨o, h, r.step I.dom t⟩, I.sep, I.d0, I.st.trans t, I.er⟩
/-- a slot is stored -/
theorem Iv.put (I : Iv Γ A H σ δ) {v : V} (hs : s.own = false) (r : SlR Γ.G Γ.A0 Γ.H0 A H (some v) s) (hi : i < δ.length := by first | decide | simp) : Iv Γ A H (σ.set i (some v)) (δ.set i s) := by
  refine ⟨by simp [I.len], fun j t e => ?_, fun j k t u p hjk ej ek ot ou pj pk => ?_, I.d0, I.st, I.er⟩
  · by_cases h : i = j
    · subst h
      rw [List.getElem?_set_self hi] at e
      cases e
      exact ⟨_, by rw [List.getElem?_set_self (by rw [I.len]; exact hi)], r⟩
    · rw [List.getElem?_set_ne h] at e ⊢
      exact I.at_ j t e
  · have nj : i ≠ j := fun h => by
      subst h
      rw [List.getElem?_set_self hi] at ej
      cases ej
      rw [hs] at ot; cases ot
    have nk : i ≠ k := fun h => by
      subst h
      rw [List.getElem?_set_self hi] at ek
      cases ek
      rw [hs] at ou; cases ou
    rw [List.getElem?_set_ne nj] at ej pj
    rw [List.getElem?_set_ne nk] at ek pk
    exact I.sep j k t u p hjk ej ek ot ou pj pk
theorem Iv.fx (I : Iv Γ A H σ δ) {v : V} {α : Type} [Py α] {a : α} (r : rep Γ.G A H v a) (hi : i < δ.length := by first | decide | simp) : Iv Γ A H (σ.set i (some v)) (δ.set i (.fx α a)) :=
  I.put rfl ⟨v, rfl, r⟩ hi
theorem Iv.own (I : Iv Γ A H σ δ) (h : δ[i]? = some s) (ho : s.own = true) : ∃ p o, σ[i]? = some (some (.ref p)) ∧ A.M p ∧ ¬ A.B p ∧ Γ.H0 p = none ∧ H p = some o ∧ OwR Γ.G A H p o s := by
  obtain ⟨o, e, r⟩ := I.at_ _ _ h
  cases s with
  | @mu α i xs => obtain ⟨p, ho, e2, r⟩ := r; exact ⟨p, ho, by rw [e, e2], r⟩
  | @mp α i q xs => obtain ⟨p, ho, e2, r⟩ := r; exact ⟨p, ho, by rw [e, e2], r⟩
  | ob C q fs => obtain ⟨p, ho, e2, r⟩ := r; exact ⟨p, ho, by rw [e, e2], r⟩
  | _ => cases ho
/-- slots but the own one at i, where nothing else has changed -/
theorem Iv.other (I : Iv Γ A H σ δ) {j : Nat} {p : Addr} {t : Sl} (h : δ[i]? = some s) (ho : s.own = true) (e : σ[i]? = some (some (.ref p))) (hj : i ≠ j) (ej : δ[j]? = some t) (mv : Mv A H A' H')
    (km : ∀ q, q ≠ p → A.M q → A'.M q) (kb : ∀ q, A'.B q → A.B q) (kh : ∀ q, q ≠ p → H' q = H q) : ∃ o, σ[j]? = some o ∧ SlR Γ.G Γ.A0 Γ.H0 A' H' o t := by
  obtain ⟨o, e1, r⟩ := I.at_ j t ej
  refine ⟨o, e1, ?_⟩
  have own : t.own = true → OwnAt Γ.G Γ.H0 A H o t → OwnAt Γ.G Γ.H0 A' H' o t := fun ot ⟨q, u, e2, m2, b2, n2, h2, k2⟩ => by
    have nq : q ≠ p := fun z => by subst e2 z; exact I.sep i j _ _ q hj h ej ho ot e e1
    exact ⟨q, u, e2, km q nq m2, fun z => b2 (kb q z), n2, by rw [kh q nq]; exact h2, k2.mv mv⟩
  cases t with
  | un => trivial
  | @fx α i a => obtain ⟨v, e2, r⟩ := r; exact ⟨v, e2, Py.mv r mv⟩
  | @bo α i xs => obtain ⟨v, q, vs, e2, e3, r, k⟩ := r; exact ⟨v, q, vs, e2, e3, r, k.imp fun _ _ r => Py.mv r mv⟩
  | @mu α i' xs => exact own rfl r
  | @mp α i' q xs => exact own rfl r
  | ob C q fs => exact own rfl r
/-- slots are forgotten -/
inductive Le : List Sl → List Sl → Prop
  | nil : Le [] []
  | eq {s l m} : Le l m → Le (s :: l) (s :: m)
  | un {s l m} : Le l m → Le (s :: l) (.un :: m)
theorem Le.refl : ∀ l : List Sl, Le l l
  | [] => .nil
  | _ :: l => .eq (Le.refl l)
theorem Le.len : ∀ {l m : List Sl}, Le l m → l.length = m.length
  | _, _, .nil => rfl
  | _, _, .eq h => congrArg (· + 1) h.len
  | _, _, .un h => congrArg (· + 1) h.len
theorem Le.get : ∀ {l m : List Sl} (i : Nat) {s : Sl}, Le l m → m[i]? = some s → ∃ t, l[i]? = some t ∧ (t = s ∨ s = .un)
  | _, _, i, _, .nil, e => by simp at e
  | _, _, 0, _, .eq _, e => by simp at e; subst e; exact ⟨_, rfl, .inl rfl⟩
  | _, _, 0, _, .un _, e => by simp at e; subst e; exact ⟨_, rfl, .inr rfl⟩
  | _, _, i + 1, _, .eq h, e => by
    obtain ⟨t, h1, h2⟩ := h.get i (by simpa using e)
    exact ⟨t, by simpa using h1, h2⟩
  | _, _, i + 1, _, .un h, e => by
    obtain ⟨t, h1, h2⟩ := h.get i (by simpa using e)
    exact ⟨t, by simpa using h1, h2⟩
theorem Iv.le {δ' : List Sl} (I : Iv Γ A H σ δ) (l : Le δ δ') : Iv Γ A H σ δ' := by
  refine ⟨by rw [I.len, l.len], fun j t e => ?_, fun j k t u p hjk ej ek ot ou pj pk => ?_, I.d0, I.st, I.er⟩
  · obtain ⟨s, h1, h2⟩ := l.get j e
    obtain ⟨o, h3, h4⟩ := I.at_ j s h1
    rcases h2 with rfl | rfl
    · exact ⟨o, h3, h4⟩
    · exact ⟨o, h3, trivial⟩
  · obtain ⟨s, h1, h2⟩ := l.get j ej
    obtain ⟨s', h3, h4⟩ := l.get k ek
    rcases h2 with rfl | rfl
    · rcases h4 with rfl | rfl
      · exact I.sep j k _ _ p hjk h1 h3 ot ou pj pk
      · cases ou
    · cases ot
end

/-! ### judgements -/
def EvT {α : Type} [Pa α] (Γ : Cxt) (te : TE) (δ : List Sl) (m : W α) : Prop := ∀ σ A H Q, Iv Γ A H σ δ →
  m.run (fun a => ∀ v A' H', St A H A' H' → rep Γ.G A' H' v a → Q v H') Γ.Er → te σ H Q
/-- a list that is new and ours -/
def EvF {α : Type} [Py α] (Γ : Cxt) (te : TE) (δ : List Sl) (m : W (List α)) : Prop := ∀ σ A H Q, Iv Γ A H σ δ →
  m.run (fun xs => ∀ p vs A' H', H p = none → A'.M p → ¬ A'.B p → St A H A' H' → H' p = some (.lst vs) → All2 (rep Γ.G A' H') vs xs → Q (.ref p) H') Γ.Er → te σ H Q
def EvB (Γ : Cxt) (tt : TT) (δ : List Sl) (m : W Bool) : Prop := ∀ σ A H Q, Iv Γ A H σ δ →
  m.run (fun b => ∀ A' H', St A H A' H' → Q b H') Γ.Er → tt σ H Q
/-- arguments -/
class PaL (τ : Type) where
  repL : Gx → Av → Hp → List V → τ → Prop
  stL : ∀ {G A H A' H' vs t}, repL G A H vs t → Dom A H → St A H A' H' → repL G A' H' vs t
  n : Nat
  lenL : ∀ {G A H vs t}, repL G A H vs t → vs.length = n
open PaL (repL)
structure Nl where
structure Cn (α τ : Type) where
  a : α
  r : τ
instance : PaL Nl where
  repL := fun _ _ _ vs _ => vs = []
  stL := fun h _ _ => h
  n := 0
  lenL := fun h => by rw [h]; rfl
instance {α τ : Type} [Pa α] [PaL τ] : PaL (Cn α τ) where
  repL := fun G A H vs t => ∃ v r, vs = v :: r ∧ rep G A H v t.a ∧ repL G A H r t.r
  stL := fun ⟨v, r, e, h, k⟩ d s => ⟨v, r, e, Pa.st h d s, PaL.stL k d s⟩
  n := PaL.n τ + 1
  lenL := fun ⟨v, r, e, h, k⟩ => by rw [e, List.length_cons, PaL.lenL k]
def EvA {τ : Type} [PaL τ] (Γ : Cxt) (ta : TA) (δ : List Sl) (m : W τ) : Prop := ∀ σ A H Q, Iv Γ A H σ δ →
  m.run (fun t => ∀ vs A' H', St A H A' H' → repL Γ.G A' H' vs t → Q vs H') Γ.Er → ta σ H Q
/-- by values: an operator -/
def OpV {α β γ : Type} [Pa α] [Pa β] [Pa γ] (Γ : Cxt) (r : R2) (f : α → β → W γ) : Prop := ∀ x y A H Q a b, Dom A H → rep Γ.G A H x a → rep Γ.G A H y b →
  (f a b).run (fun c => ∀ v A' H', St A H A' H' → rep Γ.G A' H' v c → Q v H') Γ.Er → r x y H Q
def UnV {α γ : Type} [Pa α] [Pa γ] (Γ : Cxt) (r : V → Hp → VK → Prop) (f : α → W γ) : Prop := ∀ x A H Q a, Dom A H → rep Γ.G A H x a →
  (f a).run (fun c => ∀ v A' H', St A H A' H' → rep Γ.G A' H' v c → Q v H') Γ.Er → r x H Q
def CaV {τ γ : Type} [PaL τ] [Pa γ] (Γ : Cxt) (r : List V → Hp → VK → Prop) (f : τ → W γ) : Prop := ∀ xs A H Q t, Dom A H → repL Γ.G A H xs t →
  (f t).run (fun c => ∀ v A' H', St A H A' H' → rep Γ.G A' H' v c → Q v H') Γ.Er → r xs H Q
section
variable {Γ : Cxt} {δ : List Sl} {α β γ τ : Type} {ta tb te : TE} {tl : TA}
theorem ev_var [Py α] {i : Nat} {a : α} (h : δ[i]? = some (.fx α a) := by rfl) : EvT Γ (tVar i) δ (pure a) := fun σ A H Q I q => by
  obtain ⟨o, e, v, rfl, r⟩ := I.at_ _ _ h
  exact ⟨v, e, q v A H (St.refl I.dom) r⟩
theorem ev_bo [Py α] {i : Nat} {xs : List α} (h : δ[i]? = some (.bo α xs) := by rfl) : EvT (α := Bor α) Γ (tVar i) δ (pure ⟨xs⟩) := fun σ A H Q I q => by
  obtain ⟨o, e, v, p, vs, rfl, rfl, r, k⟩ := I.at_ _ _ h
  obtain ⟨n, r⟩ := r
  exact ⟨_, e, q _ A H (St.refl I.dom) ⟨p, vs, rfl, ⟨fun b => (I.st.nb p b).elim n (fun z => by rw [r] at z; cases z), I.st.k p _ n r⟩, k⟩⟩
theorem ev_mu [Py α] {i : Nat} {xs : List α} (h : δ[i]? = some (.mu α xs) := by rfl) : EvT (α := Bor α) Γ (tVar i) δ (pure ⟨xs⟩) := fun σ A H Q I q => by
  obtain ⟨o, e, p, ho, rfl, m, b, n, hh, vs, rfl, k⟩ := I.at_ _ _ h
  exact ⟨_, e, q _ A H (St.refl I.dom) ⟨p, vs, rfl, ⟨b, hh⟩, k⟩⟩
/-- a kept list, to be read -/
theorem ev_bor [Py α] {m : W (List α)} (h : EvT Γ te δ m) : EvT (α := Bor α) Γ te δ (m >>= fun xs => pure ⟨xs⟩) := fun σ A H Q I q => by
  refine h σ A H Q I (m.mono (fun xs q v A' H' s r => q v A' H' s ?_) (fun _ h => h) q)
  obtain ⟨p, vs, e, ⟨n, k⟩, z⟩ := r
  exact ⟨p, vs, e, ⟨fun b => n (s.d.s p b), k⟩, z⟩
theorem ev_int {i : Int} : EvT (α := Int) Γ (tC (.int i)) δ (pure i) := fun σ A H Q I q => q _ A H (St.refl I.dom) rfl
theorem ev_bl {b : Bool} : EvT (α := Bool) Γ (tC (.bl b)) δ (pure b) := fun σ A H Q I q => q _ A H (St.refl I.dom) rfl
/-- another type for the same value -/
theorem ev_as [Pa α] [Pa β] {m : W α} (f : α → β) (hf : ∀ G A H v a, rep G A H v a → rep G A H v (f a)) (h : EvT Γ te δ m) : EvT Γ te δ (m >>= fun a => pure (f a)) := fun σ A H Q I q =>
  h σ A H Q I (m.mono (fun a q v A' H' s r => q v A' H' s (hf _ _ _ _ _ r)) (fun _ h => h) q)
/-- values that are not None -/
class NN (α : Type) [Py α] : Prop where
  nn : ∀ {G A H v} {a : α}, rep G A H v a → v ≠ .non
instance : NN Int := ⟨fun {G A H v a} (h : v = _) e => by rw [h] at e; cases e⟩
instance : NN Bool := ⟨fun {G A H v a} (h : v = _) e => by rw [h] at e; cases e⟩
instance : NN Str := ⟨fun {G A H v a} (h : v = _) e => by rw [h] at e; cases e⟩
instance [Py α] : NN (List α) := ⟨fun ⟨p, vs, h, _⟩ e => by rw [h] at e; cases e⟩
instance [Py α] : NN (Tup α) := ⟨fun ⟨p, vs, h, _⟩ e => by rw [h] at e; cases e⟩
theorem ev_op [Pa α] [Pa β] [Pa γ] {r : R2} {f : α → β → W γ} {ma : W α} {mb : W β} (hr : OpV Γ r f) (ha : EvT Γ ta δ ma) (hb : EvT Γ tb δ mb) : EvT Γ (tOp r ta tb) δ (ma >>= fun a => mb >>= fun b => f a b) := fun σ A H Q I q => by
  refine ha σ A H _ I (ma.mono (fun a q x A1 H1 s1 r1 => ?_) (fun _ h => h) q)
  refine hb σ A1 H1 _ (I.step s1) (mb.mono (fun b q y A2 H2 s2 r2 => ?_) (fun _ h => h) q)
  exact hr x y A2 H2 Q a b s2.d (Pa.st r1 s1.d s2) r2 ((f a b).mono (fun c q v A3 H3 s3 r3 => q v A3 H3 ((s1.trans s2).trans s3) r3) (fun _ h => h) q)
theorem ev_un [Pa α] [Pa γ] {r : V → Hp → VK → Prop} {f : α → W γ} {ma : W α} (hr : UnV Γ r f) (ha : EvT Γ ta δ ma) : EvT Γ (tUn r ta) δ (ma >>= f) := fun σ A H Q I q => by
  refine ha σ A H _ I (ma.mono (fun a q x A1 H1 s1 r1 => ?_) (fun _ h => h) q)
  exact hr x A1 H1 Q a s1.d r1 ((f a).mono (fun c q v A3 H3 s3 r3 => q v A3 H3 (s1.trans s3) r3) (fun _ h => h) q)
theorem ea_nil : EvA Γ tNil δ (pure Nl.mk) := fun σ A H Q I q => q [] A H (St.refl I.dom) rfl
theorem ea_cons [Pa α] [PaL τ] {ma : W α} {ml : W τ} (ha : EvT Γ ta δ ma) (hl : EvA Γ tl δ ml) : EvA Γ (tCons ta tl) δ (ma >>= fun a => ml >>= fun r => pure (Cn.mk a r)) := fun σ A H Q I q => by
  refine ha σ A H _ I (ma.mono (fun a q x A1 H1 s1 r1 => ?_) (fun _ h => h) q)
  refine hl σ A1 H1 _ (I.step s1) (ml.mono (fun t q vs A2 H2 s2 r2 => ?_) (fun _ h => h) q)
  exact q (x :: vs) A2 H2 (s1.trans s2) ⟨x, vs, rfl, Pa.st r1 s1.d s2, r2⟩
/-! ### operators on ints -/
theorem ov_I {g : Int → Int → V} {f : Int → Int → Int} (h : ∀ i j, g i j = .int (f i j)) : OpV Γ (rI0 g) (fun (a b : Int) => (pure (f a b) : W Int)) := fun x y A H Q a b d hx hy q =>
  ⟨a, b, hx, hy, q _ A H (St.refl d) (h a b)⟩
theorem ov_B {g : Int → Int → V} {f : Int → Int → Bool} (h : ∀ i j, g i j = .bl (f i j)) : OpV Γ (rI0 g) (fun (a b : Int) => (pure (f a b) : W Bool)) := fun x y A H Q a b d hx hy q =>
  ⟨a, b, hx, hy, q _ A H (St.refl d) (h a b)⟩
theorem ov_IC {C : Int → Int → Prop} {g : Int → Int → V} {f : Int → Int → Int} (h : ∀ i j, g i j = .int (f i j)) : OpV Γ (rI C g) (fun (a b : Int) => W.need (C a b) >>= fun _ => (pure (f a b) : W Int)) := fun x y A H Q a b d hx hy q =>
  ⟨a, b, hx, hy, q.1, q.2 _ A H (St.refl d) (h a b)⟩
theorem ov_add : OpV Γ (rI0 fun i j => .int (i + j)) (fun (a b : Int) => (pure (a + b) : W Int)) := ov_I fun _ _ => rfl
theorem ov_and : OpV Γ (rI0 fun i j => .int (Builtin.bitAnd i j)) (fun (a b : Int) => (pure (Builtin.bitAnd a b) : W Int)) := ov_I fun _ _ => rfl
theorem ov_or : OpV Γ (rI0 fun i j => .int (Builtin.bitOr i j)) (fun (a b : Int) => (pure (Builtin.bitOr a b) : W Int)) := ov_I fun _ _ => rfl
theorem ov_mul : OpV Γ (rI CMulW fun i j => .int (i * j)) (fun (a b : Int) => W.need (CMulW a b) >>= fun _ => (pure (a * b) : W Int)) := ov_IC fun _ _ => rfl
theorem ov_mod : OpV Γ (rI (fun _ j => 0 < j) fun i j => .int (i % j)) (fun (a b : Int) => W.need (0 < b) >>= fun _ => (pure (a % b) : W Int)) := fun x y A H Q a b d hx hy q => ⟨a, b, hx, hy, q.1, q.2 _ A H (St.refl d) rfl⟩
theorem ov_shl : OpV Γ (rI CPow fun i j => .int (i * 2 ^ j.toNat)) (fun (a b : Int) => W.need (CPow a b) >>= fun _ => (pure (a * 2 ^ b.toNat) : W Int)) := ov_IC fun _ _ => rfl
theorem ov_shr : OpV Γ (rI (fun _ j => 0 ≤ j) fun i j => .int (i / 2 ^ j.toNat)) (fun (a b : Int) => W.need (0 ≤ b) >>= fun _ => (pure (a / 2 ^ b.toNat) : W Int)) := fun x y A H Q a b d hx hy q => ⟨a, b, hx, hy, q.1, q.2 _ A H (St.refl d) rfl⟩
theorem ov_gt : OpV Γ (rI0 fun i j => .bl (decide (j < i))) (fun (a b : Int) => (pure (decide (b < a)) : W Bool)) := ov_B fun _ _ => rfl
theorem uv_neg : UnV Γ (rU fun i => .int (-i)) (fun a => (pure (-a) : W Int)) := fun x A H Q a d hx q => ⟨a, hx, q _ A H (St.refl d) rfl⟩
theorem uv_inv : UnV Γ (rU fun i => .int (Builtin.bitNot i)) (fun a => (pure (Builtin.bitNot a) : W Int)) := fun x A H Q a d hx q => ⟨a, hx, q _ A H (St.refl d) rfl⟩

/-! ### values without parts: ==, !=, is -/
class Fl (α : Type) [Py α] where
  to : α → V
  rp : ∀ {G A H v} {a : α}, rep G A H v a → v = to a
  sc : ∀ a : α, to a = .non ∨ (∃ i, to a = .int i) ∨ (∃ b, to a = .bl b) ∨ ∃ s, to a = .str s
instance : Fl Int := ⟨.int, fun h => h, fun a => .inr (.inl ⟨a, rfl⟩)⟩
instance : Fl Bool := ⟨.bl, fun h => h, fun a => .inr (.inr (.inl ⟨a, rfl⟩))⟩
instance : Fl Str := ⟨.str, fun h => h, fun a => .inr (.inr (.inr ⟨a, rfl⟩))⟩
instance : Fl Unit := ⟨fun _ => .non, fun h => h, fun _ => .inl rfl⟩
instance [Py α] [Fl α] : Fl (Option α) := ⟨fun o => match o with | none => .non | some a => Fl.to a, fun {G A H v a} h => match a, h with | none, h => h | some _, h => Fl.rp h.2, fun a => match a with | none => .inl rfl | some a => Fl.sc a⟩
def pyEq [Py α] [Py β] [Fl α] [Fl β] (a : α) (b : β) : Bool := decide (Fl.to a = Fl.to b)
theorem ov_eq [Py α] [Py β] [Fl α] [Fl β] (hs : ∀ (a : α) (b : β), scal (Fl.to a) (Fl.to b) = true) : OpV Γ rEq (fun (a : α) (b : β) => (pure (pyEq a b) : W Bool)) := fun x y A H Q a b d hx hy q => by
  have e1 := Fl.rp hx
  have e2 := Fl.rp hy
  subst e1 e2
  exact ⟨hs a b, q _ A H (St.refl d) rfl⟩
theorem ov_ne [Py α] [Py β] [Fl α] [Fl β] (hs : ∀ (a : α) (b : β), scal (Fl.to a) (Fl.to b) = true) : OpV Γ rNe (fun (a : α) (b : β) => (pure (!pyEq a b) : W Bool)) := fun x y A H Q a b d hx hy q => by
  have e1 := Fl.rp hx
  have e2 := Fl.rp hy
  subst e1 e2
  exact ⟨hs a b, q _ A H (St.refl d) rfl⟩
theorem sc_ii (a b : Int) : scal (Fl.to a) (Fl.to b) = true := rfl
@[simp] theorem pyEq_ii (a b : Int) : pyEq a b = decide (a = b) := by
  unfold pyEq
  by_cases h : a = b
  · subst h; simp
  · rw [decide_eq_false h, decide_eq_false]
    intro e
    exact h (V.int.inj e)
@[simp] theorem pyEq_bb (a b : Bool) : pyEq a b = decide (a = b) := by cases a <;> cases b <;> rfl
@[simp] theorem pyEq_ss (a b : Str) : pyEq a b = decide (a = b) := by
  unfold pyEq
  by_cases h : a = b
  · subst h; simp
  · rw [decide_eq_false h, decide_eq_false]
    intro e
    exact h (V.str.inj e)
@[simp] theorem pyEq_oo (a b : Option Int) : pyEq a b = decide (a = b) := by
  unfold pyEq
  by_cases h : a = b
  · subst h; simp
  · rw [decide_eq_false h, decide_eq_false]
    intro e
    apply h
    cases a <;> cases b
    · rfl
    · cases e
    · cases e
    · exact congrArg some (V.int.inj e)
@[simp] theorem pyEq_oi (a : Option Int) (b : Int) : pyEq a b = decide (a = some b) := by rw [← pyEq_oo]; rfl
@[simp] theorem pyEq_io (a : Int) (b : Option Int) : pyEq a b = decide (some a = b) := by rw [← pyEq_oo]; rfl
/-! ### tests, bools -/
theorem eb_test {m : W Bool} (h : EvT Γ te δ m) : EvB Γ (tTest te) δ m := fun σ A H Q I q => h σ A H _ I (m.mono (fun b q v A' H' s r => ⟨b, r, q A' H' s⟩) (fun _ h => h) q)
theorem eb_val {m : W Bool} (h : EvT Γ te δ m) : EvB Γ (tB te) δ m := fun σ A H Q I q => h σ A H _ I (m.mono (fun b q v A' H' s r => ⟨b, r, q A' H' s⟩) (fun _ h => h) q)
theorem eb_not {t : TT} {m : W Bool} (h : EvB Γ t δ m) : EvB Γ (tNot t) δ (m >>= fun b => pure (!b)) := fun σ A H Q I q => h σ A H _ I q
theorem eb_and {t u : TT} {m n : W Bool} (h : EvB Γ t δ m) (k : EvB Γ u δ n) : EvB Γ (tAnd t u) δ (m >>= fun b => if b = true then n else pure false) := fun σ A H Q I q => by
  refine h σ A H _ I (m.mono (fun b q A' H' s => ?_) (fun _ h => h) q)
  cases b with
  | true => exact iteT (k σ A' H' Q (I.step s) (n.mono (fun c q A'' H'' s' => q A'' H'' (s.trans s')) (fun _ h => h) q))
  | false => exact iteF (q A' H' s)
theorem eb_or {t u : TT} {m n : W Bool} (h : EvB Γ t δ m) (k : EvB Γ u δ n) : EvB Γ (tOr t u) δ (m >>= fun b => if b = true then pure true else n) := fun σ A H Q I q => by
  refine h σ A H _ I (m.mono (fun b q A' H' s => ?_) (fun _ h => h) q)
  cases b with
  | true => exact iteT (q A' H' s)
  | false => exact iteF (k σ A' H' Q (I.step s) (n.mono (fun c q A'' H'' s' => q A'' H'' (s.trans s')) (fun _ h => h) q))
theorem ev_and {m n : W Bool} (h : EvT Γ ta δ m) (k : EvT Γ tb δ n) : EvT Γ (tAndV ta tb) δ (m >>= fun b => if b = true then n else pure false) := fun σ A H Q I q => by
  refine h σ A H _ I (m.mono (fun b q v A' H' s r => ⟨b, r, ?_⟩) (fun _ h => h) q)
  cases b with
  | true => exact iteT (k σ A' H' Q (I.step s) (n.mono (fun c q v A'' H'' s' => q v A'' H'' (s.trans s')) (fun _ h => h) q))
  | false => exact iteF (q _ A' H' s rfl)
theorem ev_or {m n : W Bool} (h : EvT Γ ta δ m) (k : EvT Γ tb δ n) : EvT Γ (tOrV ta tb) δ (m >>= fun b => if b = true then pure true else n) := fun σ A H Q I q => by
  refine h σ A H _ I (m.mono (fun b q v A' H' s r => ⟨b, r, ?_⟩) (fun _ h => h) q)
  cases b with
  | true => exact iteT (q _ A' H' s rfl)
  | false => exact iteF (k σ A' H' Q (I.step s) (n.mono (fun c q v A'' H'' s' => q v A'' H'' (s.trans s')) (fun _ h => h) q))
theorem ev_not {m : W Bool} (h : EvT Γ ta δ m) : EvT Γ (tNotV ta) δ (m >>= fun b => (pure (!b) : W Bool)) := fun σ A H Q I q =>
  h σ A H _ I (m.mono (fun b q v A' H' s r => ⟨b, r, q _ A' H' s rfl⟩) (fun _ h => h) q)
theorem ev_if [Pa α] {t : TT} {mc : W Bool} {m n : W α} (hc : EvB Γ t δ mc) (h : EvT Γ ta δ m) (k : EvT Γ tb δ n) : EvT Γ (tIf t ta tb) δ (mc >>= fun b => if b = true then m else n) := fun σ A H Q I q => by
  refine hc σ A H _ I (mc.mono (fun b q A' H' s => ?_) (fun _ h => h) q)
  cases b with
  | true => exact iteT (h σ A' H' Q (I.step s) (m.mono (fun c q v A'' H'' s' => q v A'' H'' (s.trans s')) (fun _ h => h) q))
  | false => exact iteF (k σ A' H' Q (I.step s) (n.mono (fun c q v A'' H'' s' => q v A'' H'' (s.trans s')) (fun _ h => h) q))
/-- truth of a value -/
class Tr (α : Type) [Pa α] where
  tr : α → Bool
  ok : ∀ {G A H v} {a : α}, rep G A H v a → TruV G.K v H (tr a)
instance : Tr Int := ⟨fun i => i != 0, fun {G A H v a} (h : v = _) => by subst h; exact rfl⟩
instance : Tr Bool := ⟨fun b => b, fun {G A H v a} (h : v = _) => by subst h; exact rfl⟩
theorem All2.emp {α β : Type} {R : α → β → Prop} {l : List α} {m : List β} (h : All2 R l m) : (!m.isEmpty) = !l.isEmpty := by cases h <;> rfl
instance [Py α] : Tr (List α) := ⟨fun l => !l.isEmpty, fun {G A H v a} ⟨p, vs, e, h, k⟩ => by subst e; exact .inl ⟨vs, h.sq, k.emp⟩⟩
instance [Py α] : Tr (Tup α) := ⟨fun l => !l.l.isEmpty, fun {G A H v a} ⟨p, vs, e, h, k⟩ => by subst e; exact .inr (.inl ⟨vs, h.sq, k.emp⟩)⟩
theorem bor_sq [Py α] {G : Gx} {A : Av} {H : Hp} {v : V} {a : Bor α} (h : rep G A H v a) : ∃ p vs, v = .ref p ∧ SqL G.K H p vs ∧ All2 (rep G A H) vs a.l := by
  obtain ⟨p, vs, e, h, k⟩ := h
  exact ⟨p, vs, e, .inl (.inl h.2), k⟩
instance [Py α] : Tr (Bor α) := ⟨fun l => !l.l.isEmpty, fun {G A H v a} h => by
  obtain ⟨p, vs, e, h', k⟩ := bor_sq h
  subst e; exact .inl ⟨vs, h', k.emp⟩⟩
theorem eb_truth [Pa α] [Tr α] {m : W α} (h : EvT Γ te δ m) : EvB Γ (fun σ H Q => te σ H fun x H' => ∃ k, TruV Γ.G.K x H' k ∧ Q k H') δ (m >>= fun a => (pure (Tr.tr a) : W Bool)) := fun σ A H Q I q =>
  h σ A H _ I (m.mono (fun b q v A' H' s r => ⟨_, Tr.ok r, q A' H' s⟩) (fun _ h => h) q)
end
end TW
set_option Elab.async false
set_option maxRecDepth 100000
set_option maxHeartbeats 4000000
set_option linter.all false
set_option autoImplicit false
/-! TW2: statements, loops, comprehensions -/
namespace TW
open Pa (rep)
open PaL (repL)
open PySem L2

/-- a block's end: what follows, a return, a break, a continue -/
inductive Res (S β L : Type) where
  | nx (s : S) | rt (b : β) | bk (l : L) | ct (l : L)
def Wish {S β L : Type} [Pa β] (Γ : Cxt) (A : Av) (H : Hp) (D : Ends) (Δ : S → List Sl) (ΔL : L → List Sl) : Res S β L → Prop
  | .nx s => ∀ σ' A' H', Mv A H A' H' → Iv Γ A' H' σ' (Δ s) → D.nx σ' H'
  | .rt b => ∀ v A' H', St Γ.A0 Γ.H0 A' H' → rep Γ.G A' H' v b → D.rt v H'
  | .bk l => ∀ σ' A' H', Mv A H A' H' → Iv Γ A' H' σ' (ΔL l) → D.bk σ' H'
  | .ct l => ∀ σ' A' H', Mv A H A' H' → Iv Γ A' H' σ' (ΔL l) → D.ct σ' H'
def StT {S β L : Type} [Pa β] (Γ : Cxt) (ts : TS) (δ : List Sl) (m : W (Res S β L)) (Δ : S → List Sl) (ΔL : L → List Sl) : Prop :=
  ∀ σ A H D, Iv Γ A H σ δ → m.run (Wish Γ A H D Δ ΔL) Γ.Er → ts D σ H
theorem Mv.trans {A A' A'' : Av} {H H' H'' : Hp} (a : Mv A H A' H') (b : Mv A' H' A'' H'') : Mv A H A'' H'' where
  m := fun p h => (b.m p h).elim (a.m p) fun e => by
    by_cases hm : A.M p
    · exact .inl hm
    · refine .inr ?_
      cases q : H p with
      | none => rfl
      | some o => rw [a.k p o hm q] at e; cases e
  k := fun p o n e => b.k p o (fun h => (a.m p h).elim n fun z => by rw [z] at e; cases e) (a.k p o n e)
  b := fun p h => b.b p (a.b p h).1
section
variable {Γ : Cxt} {A A' : Av} {H H' : Hp} {σ : L2.St} {δ δ' : List Sl} {S S1 β L α : Type} [Pa β] {Δ : S → List Sl} {ΔL : L → List Sl} {D : Ends} {ts t u : TS} {te : TE}
theorem Iv.stepMv (I : Iv Γ A H σ δ) (s : St A H A' H') : Mv A H A' H' := s.mv I.dom
theorem Wish.mv {r : Res S β L} (w : Wish Γ A H D Δ ΔL r) (k : Mv A H A' H') : Wish Γ A' H' D Δ ΔL r := by
  cases r with
  | nx s => exact fun σ' A'' H'' m I => w σ' A'' H'' (k.trans m) I
  | rt b => exact w
  | bk l => exact fun σ' A'' H'' m I => w σ' A'' H'' (k.trans m) I
  | ct l => exact fun σ' A'' H'' m I => w σ' A'' H'' (k.trans m) I
def seqW (m : W (Res S1 β L)) (f : S1 → W (Res S β L)) : W (Res S β L) := m >>= fun r => match r with
  | .nx s => f s
  | .rt b => pure (.rt b)
  | .bk l => pure (.bk l)
  | .ct l => pure (.ct l)
theorem st_nil (s : S) (h : Le δ (Δ s)) : StT (β := β) Γ tNext δ (pure (.nx s)) Δ ΔL := fun σ A H D I q => q σ A H (Mv.refl I.dom) (I.le h)
theorem st_seq {Δ1 : S1 → List Sl} {m : W (Res S1 β L)} {f : S1 → W (Res S β L)} (h1 : StT Γ t δ m Δ1 ΔL) (h2 : ∀ s, StT Γ u (Δ1 s) (f s) Δ ΔL) : StT Γ (tSeq t u) δ (seqW m f) Δ ΔL := fun σ A H D I q => by
  refine h1 σ A H _ I (m.mono (fun r q => ?_) (fun _ h => h) q)
  cases r with
  | nx s => exact fun σ' A' H' k I' => h2 s σ' A' H' D I' ((f s).mono (fun r w => w.mv k) (fun _ h => h) q)
  | rt b => exact q
  | bk l => exact q
  | ct l => exact q
theorem st_set [Py α] {i : Nat} {m : W α} (h : EvT Γ te δ m) (hi : i < δ.length := by first | decide | simp) : StT (β := β) (L := L) Γ (tAsg te (gName i)) δ (m >>= fun a => pure (.nx a)) (fun a => δ.set i (.fx α a)) ΔL := fun σ A H D I q => by
  refine h σ A H _ I (m.mono (fun a q v A' H' s r => ?_) (fun _ h => h) q)
  exact q _ A' H' (I.stepMv s) ((I.step s).fx r hi)
/-- a new list into a slot, as our own -/
theorem Iv.putM [Py α] (I : Iv Γ A H σ δ) {i : Nat} {p : Addr} {vs : List V} {xs : List α} (n : H p = none) (m : A'.M p) (b : ¬ A'.B p) (s : St A H A' H') (h : H' p = some (.lst vs)) (k : All2 (rep Γ.G A' H') vs xs) (hi : i < δ.length) :
    Iv Γ A' H' (σ.set i (some (.ref p))) (δ.set i (.mu α xs)) := by
  have I' := I.step s
  have np : ∀ (j : Nat) (t : Sl), δ[j]? = some t → t.own = true → σ[j]? = some (some (.ref p)) → False := fun j t ej ot pj => by
    obtain ⟨q, o, e1, _, _, _, hh, _⟩ := I.own ej ot
    rw [e1] at pj
    cases pj
    rw [n] at hh; cases hh
  refine ⟨by simp [I.len], fun j t e => ?_, fun j k t u q hjk ej ek ot ou pj pk => ?_, I.d0, I'.st, I.er⟩
  · by_cases hj : i = j
    · subst hj
      rw [List.getElem?_set_self hi] at e
      cases e
      exact ⟨_, by rw [List.getElem?_set_self (by rw [I.len]; exact hi)], p, _, rfl, m, b, I.st.none n, h, vs, rfl, k⟩
    · rw [List.getElem?_set_ne hj] at e ⊢
      exact I'.at_ j t e
  · by_cases hj : i = j
    · subst hj
      have hk : i ≠ k := hjk
      rw [List.getElem?_set_ne hk] at ek pk
      rw [List.getElem?_set_self (by rw [I.len]; exact hi)] at pj
      cases pj
      exact np k u ek ou pk
    · rw [List.getElem?_set_ne hj] at ej pj
      by_cases hk : i = k
      · subst hk
        rw [List.getElem?_set_self (by rw [I.len]; exact hi)] at pk
        cases pk
        exact np j t ej ot pj
      · rw [List.getElem?_set_ne hk] at ek pk
        exact I.sep j k t u q hjk ej ek ot ou pj pk
theorem st_setM [Py α] {i : Nat} {m : W (List α)} (h : EvF Γ te δ m) (hi : i < δ.length := by first | decide | simp) : StT (β := β) (L := L) Γ (tAsg te (gName i)) δ (m >>= fun a => pure (.nx a)) (fun a => δ.set i (.mu α a)) ΔL := fun σ A H D I q => by
  refine h σ A H _ I (m.mono (fun a q p vs A' H' n hm hb s hp k => ?_) (fun _ h => h) q)
  exact q _ A' H' (I.stepMv s) (I.putM n hm hb s hp k hi)
/-- a new list, kept -/
theorem ev_fr [Py α] {m : W (List α)} (h : EvF Γ te δ m) : EvT Γ te δ m := fun σ A H Q I q => by
  refine h σ A H _ I (m.mono (fun a q p vs A' H' n hm hb s hp k => ?_) (fun _ h => h) q)
  refine q _ (A'.del p) H' (s.del I.dom n hb) ⟨p, vs, rfl, ⟨fun z => z.2 rfl, hp⟩, k.imp fun _ _ r => Py.mv r (Mv.del s.d)⟩
theorem st_ret {m : W β} (h : EvT Γ te δ m) : StT (S := S) (L := L) Γ (tRet te) δ (m >>= fun a => pure (.rt a)) Δ ΔL := fun σ A H D I q => by
  refine h σ A H _ I (m.mono (fun a q v A' H' s r => ?_) (fun _ h => h) q)
  exact q v A' H' (I.st.trans s) r
/-- return of a list of our own -/
theorem st_retM [Py α] {i : Nat} {xs : List α} (h : δ[i]? = some (.mu α xs) := by rfl) : StT (S := S) (L := L) (β := List α) Γ (tRet (tVar i)) δ (pure (.rt xs)) Δ ΔL := fun σ A H D I q => by
  obtain ⟨o, e, p, ho, rfl, m, b, n, hh, vs, rfl, k⟩ := I.at_ _ _ h
  refine ⟨_, e, q _ (A.del p) H (I.st.del I.d0 n b) ⟨p, vs, rfl, ⟨fun z => z.2 rfl, hh⟩, k.imp fun _ _ r => Py.mv r (Mv.del I.dom)⟩⟩
theorem st_ct (l : L) (h : Le δ (ΔL l)) : StT (S := S) (β := β) Γ tCont δ (pure (.ct l)) Δ ΔL := fun σ A H D I q => q σ A H (Mv.refl I.dom) (I.le h)
theorem st_if {c : TT} {mc : W Bool} {m n : W (Res S β L)} (hc : EvB Γ c δ mc) (h1 : StT Γ t δ m Δ ΔL) (h2 : StT Γ u δ n Δ ΔL) : StT Γ (tIfS c t u) δ (mc >>= fun b => if b = true then m else n) Δ ΔL := fun σ A H D I q => by
  refine hc σ A H _ I (mc.mono (fun b q A' H' s => ?_) (fun _ h => h) q)
  cases b with
  | true => exact iteT (h1 σ A' H' D (I.step s) (m.mono (fun r w => w.mv (I.stepMv s)) (fun _ h => h) q))
  | false => exact iteF (h2 σ A' H' D (I.step s) (n.mono (fun r w => w.mv (I.stepMv s)) (fun _ h => h) q))
/-- a list of our own is kept from here on -/
theorem Iv.keep [Py α] {i : Nat} {xs : List α} (I : Iv Γ A H σ δ) (h : δ[i]? = some (.mu α xs)) : ∃ A', Mv A H A' H ∧ Iv Γ A' H σ (δ.set i (.fx (List α) xs)) := by
  obtain ⟨o, e, p, ho, rfl, m, b, n, hh, vs, rfl, k⟩ := I.at_ _ _ h
  have hi : i < δ.length := (List.getElem?_eq_some_iff.mp h).1
  refine ⟨A.del p, Mv.del I.dom, by simp [I.len], fun j t ej => ?_, fun j k t u q hjk ej ek ot ou pj pk => ?_, I.d0, I.st.del I.d0 n b, I.er⟩
  · by_cases hj : i = j
    · subst hj
      rw [List.getElem?_set_self hi] at ej
      cases ej
      exact ⟨_, e, _, rfl, p, vs, rfl, ⟨fun z => z.2 rfl, hh⟩, k.imp fun _ _ r => Py.mv r (Mv.del I.dom)⟩
    · rw [List.getElem?_set_ne hj] at ej
      exact I.other h rfl e hj ej (Mv.del I.dom) (fun q nq m => ⟨m, nq⟩) (fun q z => z) (fun q _ => rfl)
  · have nj : i ≠ j := fun hj => by
      subst hj
      rw [List.getElem?_set_self hi] at ej
      cases ej; cases ot
    have nk : i ≠ k := fun hj => by
      subst hj
      rw [List.getElem?_set_self hi] at ek
      cases ek; cases ou
    rw [List.getElem?_set_ne nj] at ej
    rw [List.getElem?_set_ne nk] at ek
    exact I.sep j k t u q hjk ej ek ot ou pj pk
theorem st_keep [Py α] (i : Nat) {xs : List α} {m : W (Res S β L)} (k : StT Γ ts (δ.set i (.fx (List α) xs)) m Δ ΔL) (h : δ[i]? = some (.mu α xs) := by rfl) : StT Γ ts δ m Δ ΔL := fun σ A H D I q => by
  obtain ⟨A', mv, I'⟩ := I.keep h
  exact k σ A' H D I' (m.mono (fun r w => w.mv mv) (fun _ h => h) q)
/-- an object of our own is changed -/
theorem Iv.chg {i : Nat} {s s' : Sl} {p : Addr} {u : HO} (I : Iv Γ A H σ δ) (h : δ[i]? = some s) (hs : s.own = true) (hs' : ∀ G H0 A H o, OwnAt G H0 A H o s' → SlR G Γ.A0 H0 A H o s') (e : σ[i]? = some (some (.ref p))) (k : OwR Γ.G A H p u s') :
    Mv A H A (upd H p u) ∧ Iv Γ A (upd H p u) σ (δ.set i s') := by
  obtain ⟨p', o', e', m, b, n, hh, _⟩ := I.own h hs
  rw [e] at e'; cases e'
  have hi : i < δ.length := (List.getElem?_eq_some_iff.mp h).1
  have mv : Mv A H A (upd H p u) := Mv.chg I.dom m b
  refine ⟨mv, by simp [I.len], fun j t ej => ?_, fun j k t u' q hjk ej ek ot ou pj pk => ?_, I.d0, I.st.chg n m b, I.er⟩
  · by_cases hj : i = j
    · subst hj
      rw [List.getElem?_set_self hi] at ej
      cases ej
      exact ⟨_, e, hs' _ _ _ _ _ ⟨p, u, rfl, m, b, n, upd_same, k.mv mv⟩⟩
    · rw [List.getElem?_set_ne hj] at ej
      exact I.other h hs e hj ej mv (fun q nq m => m) (fun q z => z) (fun q nq => upd_ne nq)
  · have own : ∀ (j : Nat) (t : Sl), (δ.set i s')[j]? = some t → t.own = true → ∃ t', δ[j]? = some t' ∧ t'.own = true := fun j t ej ot => by
      by_cases hj : i = j
      · subst hj; exact ⟨_, h, hs⟩
      · rw [List.getElem?_set_ne hj] at ej; exact ⟨t, ej, ot⟩
    obtain ⟨t', e1, o1⟩ := own j t ej ot
    obtain ⟨u', e2, o2⟩ := own k u' ek ou
    exact I.sep j k t' u' q hjk e1 e2 o1 o2 pj pk
theorem st_app [Py α] {i : Nat} {xs : List α} {m : W α} (ht : EvT Γ te δ m) (h : δ[i]? = some (.mu α xs) := by rfl) :
    StT (β := β) (L := L) Γ (tDrop (tBM Γ.G.K "list" rAppend (tVar i) (tCons te tNil))) δ (m >>= fun a => W.need (xs.length < sizeLine) >>= fun _ => pure (.nx a)) (fun a => δ.set i (.mu α (xs ++ [a]))) ΔL := fun σ A H D I q => by
  obtain ⟨o, e, p, ho, rfl, hm, b, n, hh, vs, rfl, k⟩ := I.at_ _ _ h
  refine ⟨_, e, .inl ⟨rfl, vs, .inl (.inl hh)⟩, ?_⟩
  refine ht σ A H _ I (m.mono (fun a q v A' H' s r => ?_) (fun _ h => h) q)
  have hh' := s.k p _ b hh
  refine ⟨p, vs, v, rfl, rfl, hh', by rw [k.len]; exact q.1, ?_⟩
  obtain ⟨mv, I'⟩ := (I.step s).chg (s' := .mu α (xs ++ [a])) (u := .lst (vs ++ [v])) h rfl (fun _ _ _ _ _ h => h) e ⟨_, rfl, (k.imp fun _ _ r => Pa.st r I.dom s).app (.cons r .nil)⟩
  exact q.2 σ _ _ ((I.stepMv s).trans mv) I'
end

/-! ### what a loop walks -/
def sets (σ : L2.St) (l : List (Nat × V)) : L2.St := l.foldl (fun σ p => σ.set p.1 (some p.2)) σ
/-- J yields the items xs; g stores an item, bd tells the slots then; js the slots that are stored -/
structure ItOk {α : Type} (Γ : Cxt) (J : It) (g : TG) (xs : List α) (bd : α → List Sl → List Sl) (js : List Nat) (n : Nat) (A1 : Av) (H1 : Hp) : Prop where
  stop : ∀ A H, St Γ.A0 Γ.H0 A H → Mv A1 H1 A H → J.stop xs.length H
  turn : ∀ (i : Nat) (a : α), xs[i]? = some a → ∀ A H, St Γ.A0 Γ.H0 A H → Mv A1 H1 A H → J.go i H ∧ ∀ x H', J.yld i H x H' → ∀ σ δ, δ.length = n → Iv Γ A H σ δ → ∀ Q : L2.St → Hp → Prop,
    (∀ (l : List (Nat × V)) A' H'', l.map (·.1) = js → St A H A' H'' → Iv Γ A' H'' (sets σ l) (bd a δ) → Q (sets σ l) H'') → g x σ H' Q
def EvI {α : Type} (Γ : Cxt) (wi : TI) (g : TG) (δ : List Sl) (m : W (List α)) (bd : α → List Sl → List Sl) (js : List Nat) : Prop := ∀ σ A H (R : It → Hp → Prop), Iv Γ A H σ δ →
  m.run (fun xs => ∀ J A' H', St A H A' H' → ItOk Γ J g xs bd js δ.length A' H' → R J H') Γ.Er → wi σ H R

def forW {α S β L : Type} (f : α → S → W (Res S β S)) : List α → S → W (Res S β L)
  | [], s => pure (.nx s)
  | x :: xs, s => f x s >>= fun r => match r with
    | .nx s' => forW f xs s'
    | .ct s' => forW f xs s'
    | .bk s' => pure (.nx s')
    | .rt b => pure (.rt b)
section
variable {Γ : Cxt} {A A' : Av} {H H' : Hp} {σ : L2.St} {δ δ' : List Sl} {S S1 β L α : Type} [Pa β] {Δ : S → List Sl} {ΔL : L → List Sl} {D : Ends} {ts t u : TS} {te : TE}
theorem st_for {wi : TI} {g : TG} {m : W (List α)} {bd : α → List Sl → List Sl} {js : List Nat} {f : α → S → W (Res S β S)} (s0 : S) (hi : EvI Γ wi g δ m bd js) (h0 : Le δ (Δ s0)) (hl : ∀ s, (Δ s).length = δ.length)
    (hb : ∀ a s, StT Γ ts (bd a (Δ s)) (f a s) Δ Δ) : StT (L := L) Γ (tFor wi g ts) δ (m >>= fun xs => forW f xs s0) Δ ΔL := fun σ A H D I q => by
  refine hi σ A H _ I (m.mono (fun xs q J A1 H1 s1 ok => ?_) (fun _ h => h) q)
  refine ⟨fun i k σ H => k + i = xs.length ∧ ∃ A s, Mv A1 H1 A H ∧ Iv Γ A H σ (Δ s) ∧ (forW (L := L) f (xs.drop i) s).run (Wish Γ A H D Δ ΔL) Γ.Er, ⟨xs.length, rfl, A1, s0, Mv.refl s1.d, (I.step s1).le h0, (forW f xs s0).mono (fun r w => w.mv (I.stepMv s1)) (fun _ h => h) q⟩, ?_⟩
  rintro i k σ2 H2 ⟨hk, A2, s, mv, I2, q2⟩
  have st2 := I2.st
  by_cases hi : i < xs.length
  · obtain ⟨go, tn⟩ := ok.turn i xs[i] (List.getElem?_eq_getElem hi) A2 H2 st2 mv
    rw [List.drop_eq_getElem_cons hi] at q2
    refine .inr ⟨go, fun σ3 H3 => ∃ A s, Mv A1 H1 A H3 ∧ Iv Γ A H3 σ3 (Δ s) ∧ (forW (L := L) f (xs.drop (i + 1)) s).run (Wish Γ A H3 D Δ ΔL) Γ.Er, fun σ3 H3 ⟨A3, s3, m3, I3, q3⟩ => ⟨k - 1, by omega, by omega, A3, s3, m3, I3, q3⟩, fun x H' y => ?_⟩
    refine tn x H' y σ2 (Δ s) (hl s) I2 _ fun l A3 H3 _ s3 I3 => ?_
    have mv3 := mv.trans (I2.stepMv s3)
    refine hb xs[i] s _ A3 H3 _ I3 ((f xs[i] s).mono (fun r w => ?_) (fun _ h => h) q2)
    cases r with
    | nx s' => exact fun σ' A' H' m' I' => ⟨A', s', mv3.trans m', I', (forW f (xs.drop (i + 1)) s').mono (fun r w => w.mv ((I2.stepMv s3).trans m')) (fun _ h => h) w⟩
    | ct s' => exact fun σ' A' H' m' I' => ⟨A', s', mv3.trans m', I', (forW f (xs.drop (i + 1)) s').mono (fun r w => w.mv ((I2.stepMv s3).trans m')) (fun _ h => h) w⟩
    | bk s' => exact fun σ' A' H' m' I' => w σ' A' H' ((I2.stepMv s3).trans m') I'
    | rt b => exact w
  · have e : i = xs.length := by omega
    subst e
    rw [List.drop_length] at q2
    exact .inl ⟨ok.stop A2 H2 st2 mv, q2 σ2 A2 H2 (Mv.refl I2.dom) I2⟩
def whileW (c : S → W Bool) (b : S → W (Res S β S)) (s : S) : W (Res S β L) where
  run := fun P E => ∃ (I : S → Prop) (μ : S → Nat), I s ∧ ∀ s, I s → (c s).run (fun t => if t = true then (b s).run (fun r => match r with
    | .nx s' => I s' ∧ μ s' < μ s
    | .ct s' => I s' ∧ μ s' < μ s
    | .bk s' => P (.nx s')
    | .rt v => P (.rt v)) E else P (.nx s)) E
  mono := fun {P Q E F} h k ⟨I, μ, i0, st⟩ => ⟨I, μ, i0, fun s hs => (c s).mono (fun t q => by
    split at q
    · rename_i ht
      rw [if_pos ht]
      exact (b s).mono (fun r w => by cases r <;> first | exact w | exact h _ w) k q
    · rename_i ht
      rw [if_neg ht]
      exact h _ q) k (st s hs)⟩
end
end TW
set_option Elab.async false
set_option maxRecDepth 100000
set_option maxHeartbeats 4000000
set_option linter.all false
set_option autoImplicit false
/-! TW3: lists and tuples, what loops walk, comprehensions -/
namespace TW
open Pa (rep)
open PaL (repL)
open PySem L2

/-! ### displays -/
def EvAs {α : Type} [Py α] (Γ : Cxt) (ta : TA) (δ : List Sl) (m : W (List α)) : Prop := ∀ σ A H Q, Iv Γ A H σ δ →
  m.run (fun xs => ∀ vs A' H', St A H A' H' → All2 (rep Γ.G A' H') vs xs → Q vs H') Γ.Er → ta σ H Q
section
variable {Γ : Cxt} {A A' : Av} {H H' : Hp} {σ : L2.St} {δ δ' : List Sl} {α β γ τ : Type} {ta tb te : TE} {tl : TA}
theorem es_nil [Py α] : EvAs (α := α) Γ tNil δ (pure []) := fun σ A H Q I q => q [] A H (St.refl I.dom) .nil
theorem es_cons [Py α] {ma : W α} {ml : W (List α)} (ha : EvT Γ ta δ ma) (hl : EvAs Γ tl δ ml) : EvAs Γ (tCons ta tl) δ (ma >>= fun a => ml >>= fun r => pure (a :: r)) := fun σ A H Q I q => by
  refine ha σ A H _ I (ma.mono (fun a q x A1 H1 s1 r1 => ?_) (fun _ h => h) q)
  refine hl σ A1 H1 _ (I.step s1) (ml.mono (fun t q vs A2 H2 s2 r2 => ?_) (fun _ h => h) q)
  exact q (x :: vs) A2 H2 (s1.trans s2) (.cons (Pa.st r1 s1.d s2) r2)
/-- a new list object -/
theorem fresh_lst [Py α] {p : Addr} {vs : List V} {xs : List α} {Q : VK} {G : Gx} {A0 : Av} {H0 : Hp} (s : St A0 H0 A H) (k : All2 (rep G A H) vs xs) (n : H p = none)
    (q : ∀ p vs A' H', H0 p = none → A'.M p → ¬ A'.B p → St A0 H0 A' H' → H' p = some (.lst vs) → All2 (rep G A' H') vs xs → Q (.ref p) H') : Q (.ref p) (upd H p (.lst vs)) := by
  have t := s.d.newM (o := .lst vs) n
  have st : St A H (A.add p) (upd H p (.lst vs)) := St.newM s.d n
  exact q p vs (A.add p) _ (s.none n) (.inr rfl) (fun b => s.d.nm n (s.d.s p b)) (s.trans st) upd_same (k.imp fun _ _ r => Pa.st r s.d st)
theorem ef_lst [Py α] {m : W (List α)} (h : EvAs Γ tl δ m) : EvF Γ (tLst tl) δ (m >>= fun xs => W.need (xs.length ≤ sizeLine) >>= fun _ => pure xs) := fun σ A H Q I q => by
  refine h σ A H _ I (m.mono (fun xs q vs A1 H1 s k => ?_) (fun _ h => h) q)
  refine ⟨by rw [k.len]; exact q.1, fun p n => fresh_lst s k n q.2⟩
theorem tup_new [Py α] {p : Addr} {vs : List V} {xs : List α} {G : Gx} (d : Dom A H) (k : All2 (rep G A H) vs xs) (n : H p = none) : rep G A (upd H p (.tup vs)) (.ref p) (⟨xs⟩ : Tup α) :=
  ⟨p, vs, rfl, .inl ⟨d.nm n, upd_same⟩, k.imp fun _ _ r => Pa.st r d (St.new d n)⟩
theorem ev_tupN [Py α] {m : W (List α)} (h : EvAs Γ tl δ m) : EvT (α := Tup α) Γ (tTup tl) δ (m >>= fun xs => W.need (xs.length ≤ sizeLine) >>= fun _ => pure ⟨xs⟩) := fun σ A H Q I q => by
  refine h σ A H _ I (m.mono (fun xs q vs A1 H1 s k => ?_) (fun _ h => h) q)
  refine ⟨by rw [k.len]; exact q.1, fun p n => q.2 _ A1 _ (s.trans (St.new s.d n)) (tup_new s.d k n)⟩
theorem ev_t2 [Py α] [Py β] {m : W α} {n : W β} (h : EvT Γ ta δ m) (k : EvT Γ tb δ n) : EvT Γ (tTup (tCons ta (tCons tb tNil))) δ (m >>= fun a => n >>= fun b => pure (T2.mk a b)) := fun σ A H Q I q => by
  refine h σ A H _ I (m.mono (fun a q x A1 H1 s1 r1 => ?_) (fun _ h => h) q)
  refine k σ A1 H1 _ (I.step s1) (n.mono (fun b q y A2 H2 s2 r2 => ?_) (fun _ h => h) q)
  refine ⟨by show 2 ≤ sizeLine; decide, fun p n => ?_⟩
  have s3 : St A2 H2 A2 (upd H2 p (.tup [x, y])) := St.new s2.d n
  exact q _ A2 _ ((s1.trans s2).trans s3) ⟨p, x, y, rfl, .inl ⟨s2.d.nm n, upd_same⟩, Pa.st (Pa.st r1 s1.d s2) s2.d s3, Pa.st r2 s2.d s3⟩
/-! ### reading lists and tuples -/
theorem All2.at_ {R : V → α → Prop} {vs : List V} {xs : List α} (k : All2 R vs xs) {i : Int} {a : α} (h : atI xs i = some a) : ∃ v, atI vs i = some v ∧ R v a := by
  unfold atI at h ⊢
  rw [k.len]
  cases e : ixN xs.length i with
  | none => rw [e] at h; cases h
  | some j =>
    rw [e] at h
    obtain ⟨v, h1, h2⟩ := k.get j (by simpa using h)
    exact ⟨v, by simpa using h1, h2⟩
theorem ov_ixL [Py α] : OpV Γ (rIxL Γ.G.K) (fun (xs : Bor α) (i : Int) => W.get (atI xs.l i)) := fun x y A H Q xs i d hx hy q => by
  obtain ⟨p, vs, rfl, h, k⟩ := bor_sq hx
  obtain ⟨a, e, q⟩ := q
  obtain ⟨v, e1, r⟩ := k.at_ e
  exact ⟨p, vs, i, v, rfl, hy, h, e1, q v A H (St.refl d) r⟩
theorem ov_ixT [Py α] : OpV Γ (rIxT Γ.G.K) (fun (xs : Tup α) (i : Int) => W.get (atI xs.l i)) := fun x y A H Q xs i d hx hy q => by
  obtain ⟨p, vs, rfl, h, k⟩ := hx
  obtain ⟨a, e, q⟩ := q
  obtain ⟨v, e1, r⟩ := k.at_ e
  exact ⟨p, vs, i, v, rfl, hy, h.sq, e1, q v A H (St.refl d) r⟩
theorem ev_2b [Py α] [Py β] {m : W (T2 α β)} (h : EvT Γ te δ m) : EvT Γ (tOp (rIxT Γ.G.K) te (tC (.int 1))) δ (m >>= fun t => pure t.b) := fun σ A H Q I q =>
  h σ A H _ I (m.mono (fun t q v A1 H1 s1 ⟨p, x, y, e, h, r1, r2⟩ => ⟨p, _, 1, y, e, rfl, h.sq, rfl, q _ A1 H1 s1 r2⟩) (fun _ h => h) q)
theorem cv1 [Pa α] {P : Prop} {G : Gx} {xs : List V} {t : Cn α Nl} (h : repL G A H xs t) (k : ∀ v, xs = [v] → rep G A H v t.a → P) : P := by
  obtain ⟨v, r, e, h1, h2⟩ := h
  rw [show r = [] from h2] at e
  exact k v e h1
def rLenQ (K : PySem.W.Frag) : List V → Hp → VK → Prop := fun xs H Q => ∃ p ys, xs = [.ref p] ∧ (SqL K H p ys ∨ SqT K H p ys) ∧ Q (.int ys.length) H
theorem cv_lenL [Py α] : CaV Γ (rLenQ Γ.G.K) (fun (t : Cn (Bor α) Nl) => (pure (t.a.l.length : Int) : W Int)) := fun xs A H Q t d h q => cv1 h fun v e r => by
  obtain ⟨p, vs, rfl, h, k⟩ := bor_sq r
  exact ⟨p, vs, e, .inl h, q _ A H (St.refl d) (show V.int _ = V.int _ by rw [k.len])⟩
theorem cv_lenT [Py α] : CaV Γ (rLenQ Γ.G.K) (fun (t : Cn (Tup α) Nl) => (pure (t.a.l.length : Int) : W Int)) := fun xs A H Q t d h q => cv1 h fun v e r => by
  obtain ⟨p, vs, rfl, h, k⟩ := r
  exact ⟨p, vs, e, .inr h.sq, q _ A H (St.refl d) (show V.int _ = V.int _ by rw [k.len])⟩
theorem ints_of {G : Gx} {vs : List V} {xs : List Int} (k : All2 (rep G A H) vs xs) : vs = xs.map V.int := k.map_eq V.int fun _ _ h => h
theorem bls_of {G : Gx} {vs : List V} {xs : List Bool} (k : All2 (rep G A H) vs xs) : vs = xs.map V.bl := k.map_eq V.bl fun _ _ h => h
theorem cv_sum : CaV Γ (rSum Γ.G.K) (fun (t : Cn (Bor Int) Nl) => (pure t.a.l.sum : W Int)) := fun xs A H Q t d h q => cv1 h fun v e r => by
  obtain ⟨p, vs, rfl, h, k⟩ := bor_sq r
  rw [ints_of k] at h
  exact ⟨p, t.a.l, e, h, q _ A H (St.refl d) rfl⟩
def minL : List Int → Int
  | [] => 0
  | x :: xs => xs.foldl min x
def maxL : List Int → Int
  | [] => 0
  | x :: xs => xs.foldl max x
theorem foldl_min (xs : List Int) : ∀ x : Int, xs.foldl min x ≤ x ∧ (∀ y ∈ xs, xs.foldl min x ≤ y) ∧ (xs.foldl min x = x ∨ xs.foldl min x ∈ xs) := by
  induction xs with
  | nil => intro x; exact ⟨Int.le_refl _, fun y h => (nomatch h), .inl rfl⟩
  | cons z xs ih =>
    intro x
    obtain ⟨h1, h2, h3⟩ := ih (min x z)
    rw [List.foldl_cons]
    refine ⟨by omega, fun y hy => ?_, ?_⟩
    · rcases List.mem_cons.mp hy with rfl | hy
      · omega
      · exact h2 y hy
    · rcases h3 with h3 | h3
      · by_cases hxz : x ≤ z
        · left; omega
        · right; rw [h3, show min x z = z by omega]; exact List.mem_cons_self
      · right; exact List.mem_cons_of_mem _ h3
theorem minL_le {xs : List Int} {y : Int} (h : y ∈ xs) : minL xs ≤ y := by
  cases xs with
  | nil => cases h
  | cons x xs =>
    obtain ⟨h1, h2, _⟩ := foldl_min xs x
    rcases List.mem_cons.mp h with rfl | h
    · exact h1
    · exact h2 y h
theorem minL_mem {xs : List Int} (h : xs ≠ []) : minL xs ∈ xs := by
  cases xs with
  | nil => exact absurd rfl h
  | cons x xs =>
    obtain ⟨_, _, h3⟩ := foldl_min xs x
    rcases h3 with h3 | h3
    · show xs.foldl min x ∈ _
      rw [h3]; exact List.mem_cons_self
    · exact List.mem_cons_of_mem _ h3
theorem foldl_max (xs : List Int) : ∀ x : Int, x ≤ xs.foldl max x ∧ (∀ y ∈ xs, y ≤ xs.foldl max x) ∧ (xs.foldl max x = x ∨ xs.foldl max x ∈ xs) := by
  induction xs with
  | nil => intro x; exact ⟨Int.le_refl _, fun y h => (nomatch h), .inl rfl⟩
  | cons z xs ih =>
    intro x
    obtain ⟨h1, h2, h3⟩ := ih (max x z)
    rw [List.foldl_cons]
    refine ⟨by omega, fun y hy => ?_, ?_⟩
    · rcases List.mem_cons.mp hy with rfl | hy
      · omega
      · exact h2 y hy
    · rcases h3 with h3 | h3
      · by_cases hxz : x ≤ z
        · right; rw [h3, show max x z = z by omega]; exact List.mem_cons_self
        · left; omega
      · right; exact List.mem_cons_of_mem _ h3
theorem le_maxL {xs : List Int} {y : Int} (h : y ∈ xs) : y ≤ maxL xs := by
  cases xs with
  | nil => cases h
  | cons x xs =>
    obtain ⟨h1, h2, _⟩ := foldl_max xs x
    rcases List.mem_cons.mp h with rfl | h
    · exact h1
    · exact h2 y h
theorem maxL_mem {xs : List Int} (h : xs ≠ []) : maxL xs ∈ xs := by
  cases xs with
  | nil => exact absurd rfl h
  | cons x xs =>
    obtain ⟨_, _, h3⟩ := foldl_max xs x
    rcases h3 with h3 | h3
    · show xs.foldl max x ∈ _
      rw [h3]; exact List.mem_cons_self
    · exact List.mem_cons_of_mem _ h3
theorem cv_any : CaV Γ (rAny Γ.G.K) (fun (t : Cn (Bor Bool) Nl) => (pure (t.a.l.any id) : W Bool)) := fun xs A H Q t d h q => cv1 h fun v e r => by
  obtain ⟨p, vs, rfl, h, k⟩ := bor_sq r
  rw [bls_of k] at h
  exact ⟨p, t.a.l, e, h, q _ A H (St.refl d) rfl⟩
theorem cv_all : CaV Γ (rAll Γ.G.K) (fun (t : Cn (Bor Bool) Nl) => (pure (t.a.l.all id) : W Bool)) := fun xs A H Q t d h q => cv1 h fun v e r => by
  obtain ⟨p, vs, rfl, h, k⟩ := bor_sq r
  rw [bls_of k] at h
  exact ⟨p, t.a.l, e, h, q _ A H (St.refl d) rfl⟩
def rInt1 : List V → Hp → VK → Prop := fun xs H Q => (∃ i, xs = [.int i] ∧ Q (.int i) H) ∨ ∃ k, xs = [.bl k] ∧ Q (.int (if k then 1 else 0)) H
theorem cv_int : CaV Γ rInt1 (fun (t : Cn Int Nl) => (pure t.a : W Int)) := fun xs A H Q t d h q => cv1 h fun v e r => .inl ⟨t.a, by rw [e, show v = .int t.a from r], q _ A H (St.refl d) rfl⟩
/-- tuple(xs) -/
def rTupOf (K : PySem.W.Frag) : List V → Hp → VK → Prop := fun xs H Q => ∃ p ys, xs = [.ref p] ∧ ((SqL K H p ys ∧ ∀ l, H l = none → Q (.ref l) (upd H l (.tup ys))) ∨ (SqT K H p ys ∧ Q (.ref p) H))
def rLstOf (K : PySem.W.Frag) : List V → Hp → VK → Prop := fun xs H Q => ∃ p ys, xs = [.ref p] ∧ (SqL K H p ys ∨ SqT K H p ys) ∧ ∀ l, H l = none → Q (.ref l) (upd H l (.lst ys))
theorem cv_tupL [Py α] : CaV Γ (rTupOf Γ.G.K) (fun (t : Cn (Bor α) Nl) => (pure ⟨t.a.l⟩ : W (Tup α))) := fun xs A H Q t d h q => cv1 h fun v e r => by
  obtain ⟨p, vs, rfl, h, k⟩ := bor_sq r
  exact ⟨p, vs, e, .inl ⟨h, fun l n => q _ A _ (St.new d n) (tup_new d k n)⟩⟩
theorem cv_tupT [Py α] : CaV Γ (rTupOf Γ.G.K) (fun (t : Cn (Tup α) Nl) => (pure t.a : W (Tup α))) := fun xs A H Q t d h q => cv1 h fun v e r => by
  obtain ⟨p, vs, e1, h, k⟩ := id r
  subst e1
  exact ⟨p, vs, e, .inr ⟨h.sq, q _ A H (St.refl d) r⟩⟩
theorem ef_listT [Py α] {m : W (Tup α)} (h : EvT Γ te δ m) : EvF Γ (tCB (rLstOf Γ.G.K) (tCons te tNil)) δ (m >>= fun b => pure b.l) := fun σ A H Q I q => by
  refine h σ A H _ I (m.mono (fun b q v A1 H1 s r => ?_) (fun _ h => h) q)
  obtain ⟨p, vs, rfl, h, k⟩ := r
  exact ⟨p, vs, rfl, .inr h.sq, fun l n => fresh_lst s k n q⟩
theorem All2.flat {R : V → α → Prop} {vs : List V} {xs : List α} (k : All2 R vs xs) : ∀ n : Nat, All2 R (List.replicate n vs).flatten (List.replicate n xs).flatten
  | 0 => .nil
  | n + 1 => by rw [List.replicate_succ, List.replicate_succ, List.flatten_cons, List.flatten_cons]; exact k.app (k.flat n)
def cutL {α : Type} (xs : List α) (lo hi : Option Int) : List α := (xs.drop (HT.sIx xs.length 0 lo)).take (HT.sIx xs.length xs.length hi - HT.sIx xs.length 0 lo)
theorem All2.cut {R : V → α → Prop} {vs : List V} {xs : List α} (k : All2 R vs xs) (lo hi : Option Int) : All2 R (cutV vs lo hi) (cutL xs lo hi) := by
  unfold cutV cutL
  rw [k.len]
  exact (k.drop _).take _
/-! ### what loops walk -/
def LaterL [Py α] (Γ : Cxt) (A1 : Av) (H1 : Hp) (p : Addr) (vs : List V) (xs : List α) : Prop := ∀ A H, St Γ.A0 Γ.H0 A H → Mv A1 H1 A H → SqL Γ.G.K H p vs ∧ All2 (rep Γ.G A H) vs xs
def LaterT [Py α] (Γ : Cxt) (A1 : Av) (H1 : Hp) (p : Addr) (vs : List V) (xs : List α) : Prop := ∀ A H, St Γ.A0 Γ.H0 A H → Mv A1 H1 A H → SqT Γ.G.K H p vs ∧ All2 (rep Γ.G A H) vs xs
def EvS [Py α] (Γ : Cxt) (te : TE) (δ : List Sl) (m : W (List α)) : Prop := ∀ σ A H Q, Iv Γ A H σ δ → m.run (fun xs => ∀ p vs A' H', St A H A' H' → LaterL Γ A' H' p vs xs → Q (.ref p) H') Γ.Er → te σ H Q
def EvST [Py α] (Γ : Cxt) (te : TE) (δ : List Sl) (m : W (List α)) : Prop := ∀ σ A H Q, Iv Γ A H σ δ → m.run (fun xs => ∀ p vs A' H', St A H A' H' → LaterT Γ A' H' p vs xs → Q (.ref p) H') Γ.Er → te σ H Q
theorem es_list [Py α] {m : W (List α)} (h : EvT Γ te δ m) : EvS Γ te δ m := fun σ A H Q I q => by
  refine h σ A H _ I (m.mono (fun xs q v A1 H1 s1 r1 => ?_) (fun _ h => h) q)
  obtain ⟨p, vs, rfl, h, k⟩ := r1
  exact q p vs A1 H1 s1 fun A2 H2 _ mv => ⟨(h.mv mv).sq, k.imp fun _ _ r => Py.mv r mv⟩
theorem es_bo [Py α] {i : Nat} {xs : List α} (h : δ[i]? = some (.bo α xs) := by rfl) : EvS Γ (tVar i) δ (pure xs) := fun σ A H Q I q => by
  obtain ⟨o, e, v, p, vs, rfl, rfl, ⟨n, r⟩, k⟩ := I.at_ _ _ h
  exact ⟨_, e, q p vs A H (St.refl I.dom) fun A2 H2 st mv => ⟨.inl (.inl (st.k p _ n r)), k.imp fun _ _ r => Py.mv r mv⟩⟩
theorem es_tup [Py α] {m : W (Tup α)} (h : EvT Γ te δ m) : EvST Γ te δ (m >>= fun t => pure t.l) := fun σ A H Q I q => by
  refine h σ A H _ I (m.mono (fun xs q v A1 H1 s1 r1 => ?_) (fun _ h => h) q)
  obtain ⟨p, vs, rfl, h, k⟩ := r1
  exact q p vs A1 H1 s1 fun A2 H2 _ mv => ⟨(h.mv mv).sq, k.imp fun _ _ r => Py.mv r mv⟩
/-- where an item goes -/
def EvG [Py α] (Γ : Cxt) (g : TG) (bd : α → List Sl → List Sl) (js : List Nat) (n : Nat) : Prop := (∀ a δ, δ.length = n → (bd a δ).length = n) ∧ ∀ x (a : α) A H σ δ, δ.length = n → Iv Γ A H σ δ → rep Γ.G A H x a → ∀ Q : L2.St → Hp → Prop,
  (∀ l : List (Nat × V), l.map (·.1) = js → Iv Γ A H (sets σ l) (bd a δ) → Q (sets σ l) H) → g x σ H Q
theorem eg_name [Py α] {j n : Nat} (h : j < n := by first | decide | simp) : EvG (α := α) Γ (gName j) (fun a δ => δ.set j (.fx α a)) [j] n :=
  ⟨fun a δ e => by rw [List.length_set, e], fun x a A H σ δ e I r Q q => q [(j, x)] rfl (I.fx r (by rw [e]; exact h))⟩
theorem sets_app (σ : L2.St) (l m : List (Nat × V)) : sets σ (l ++ m) = sets (sets σ l) m := List.foldl_append
theorem eg_2 [Py α] [Py β] {g1 g2 : TG} {b1 : α → List Sl → List Sl} {b2 : β → List Sl → List Sl} {j1 j2 : List Nat} {n : Nat} (h1 : EvG Γ g1 b1 j1 n) (h2 : EvG Γ g2 b2 j2 n) :
    EvG (α := T2 α β) Γ (gTup Γ.G.K 2 (gCons g1 (gCons g2 gNil))) (fun t δ => b2 t.b (b1 t.a δ)) (j1 ++ j2) n :=
  ⟨fun t δ e => h2.1 _ _ (h1.1 _ _ e), fun x t A H σ δ e I ⟨p, y, z, ex, h, r1, r2⟩ Q q => ⟨p, _, ex, h.sq, rfl, y, _, rfl, h1.2 y t.a A H σ δ e I r1 _ fun l1 e1 I1 => ⟨z, _, rfl, h2.2 z t.b A H _ _ (h1.1 _ _ e) I1 r2 _ fun l2 e2 I2 => ⟨rfl, by
    rw [← sets_app] at I2 ⊢
    exact q _ (by rw [List.map_append, e1, e2]) I2⟩⟩⟩⟩
theorem ei_list [Py α] {g : TG} {bd : α → List Sl → List Sl} {js : List Nat} {m : W (List α)} (h : EvS Γ te δ m) (hg : EvG Γ g bd js δ.length) : EvI Γ (iList Γ.G.K te) g δ m bd js := fun σ A H R I q => by
  refine h σ A H _ I (m.mono (fun xs q p vs A1 H1 s1 k => ?_) (fun _ h => h) q)
  have k1 := k A1 H1 (I.st.trans s1) (Mv.refl s1.d)
  refine ⟨p, rfl, ⟨vs, k1.1⟩, q _ A1 H1 s1 ⟨fun A2 H2 st mv => ?_, fun i a e A2 H2 st mv => ?_⟩⟩
  · obtain ⟨h1, h2⟩ := k A2 H2 st mv
    exact ⟨vs, h1, by rw [h2.len]; exact Nat.le_refl _⟩
  · obtain ⟨h1, h2⟩ := k A2 H2 st mv
    obtain ⟨v, e1, r⟩ := h2.get i e
    refine ⟨⟨vs, v, h1, e1⟩, fun x H' y σ2 δ2 hn I2 Q q => ?_⟩
    obtain ⟨rfl, y⟩ := y
    have := y vs h1
    rw [e1] at this; cases this
    exact hg.2 _ a A2 H' σ2 δ2 hn I2 r Q fun l el I3 => q l A2 H' el (St.refl I2.dom) I3
theorem ei_tup [Py α] {g : TG} {bd : α → List Sl → List Sl} {js : List Nat} {m : W (List α)} (h : EvST Γ te δ m) (hg : EvG Γ g bd js δ.length) : EvI Γ (iTup Γ.G.K te) g δ m bd js := fun σ A H R I q => by
  refine h σ A H _ I (m.mono (fun xs q p vs A1 H1 s1 k => ?_) (fun _ h => h) q)
  have k1 := k A1 H1 (I.st.trans s1) (Mv.refl s1.d)
  refine ⟨p, rfl, ⟨vs, k1.1⟩, q _ A1 H1 s1 ⟨fun A2 H2 st mv => ?_, fun i a e A2 H2 st mv => ?_⟩⟩
  · obtain ⟨h1, h2⟩ := k A2 H2 st mv
    exact ⟨vs, h1, by rw [h2.len]; exact Nat.le_refl _⟩
  · obtain ⟨h1, h2⟩ := k A2 H2 st mv
    obtain ⟨v, e1, r⟩ := h2.get i e
    refine ⟨⟨vs, v, h1, e1⟩, fun x H' y σ2 δ2 hn I2 Q q => ?_⟩
    obtain ⟨rfl, y⟩ := y
    have := y vs h1
    rw [e1] at this; cases this
    exact hg.2 _ a A2 H' σ2 δ2 hn I2 r Q fun l el I3 => q l A2 H' el (St.refl I2.dom) I3
def enumL {α : Type} (xs : List α) : List (T2 Int α) := xs.zipIdx.map fun p => ⟨(p.2 : Int), p.1⟩
theorem enumL_get {xs : List α} {i : Nat} {t : T2 Int α} (e : (enumL xs)[i]? = some t) : t.a = (i : Int) ∧ xs[i]? = some t.b := by
  unfold enumL at e
  rw [List.getElem?_map, List.getElem?_zipIdx] at e
  cases h : xs[i]? with
  | none => rw [h] at e; cases e
  | some a =>
    rw [h] at e
    simp at e
    subst e
    exact ⟨rfl, rfl⟩
theorem enumL_len (xs : List α) : (enumL xs).length = xs.length := by unfold enumL; simp
theorem ei_enum [Py α] {g : TG} {bd : T2 Int α → List Sl → List Sl} {js : List Nat} {m : W (List α)} (h : EvS Γ te δ m) (hg : EvG Γ g bd js δ.length) : EvI Γ (iEnum Γ.G.K (tCons te tNil)) g δ (m >>= fun xs => pure (enumL xs)) bd js := fun σ A H R I q => by
  refine h σ A H _ I (m.mono (fun xs q p vs A1 H1 s1 k => ?_) (fun _ h => h) q)
  have k1 := k A1 H1 (I.st.trans s1) (Mv.refl s1.d)
  refine ⟨p, vs, rfl, k1.1, q _ A1 H1 s1 ⟨fun A2 H2 st mv => ?_, fun i a e A2 H2 st mv => ?_⟩⟩
  · obtain ⟨h1, h2⟩ := k A2 H2 st mv
    exact ⟨vs, h1, by rw [h2.len, enumL_len]; exact Nat.le_refl _⟩
  · obtain ⟨h1, h2⟩ := k A2 H2 st mv
    obtain ⟨ea, eb⟩ := enumL_get e
    obtain ⟨v, e1, r⟩ := h2.get i eb
    refine ⟨⟨vs, v, h1, e1⟩, fun x H' y σ2 δ2 hn I2 Q q => ?_⟩
    obtain ⟨T, x', rfl, nT, rfl, y⟩ := y
    have := y vs h1
    rw [e1] at this; cases this
    have s3 : St A2 H2 A2 (upd H2 T (.tup [.int (i : Nat), v])) := St.new I2.dom nT
    exact hg.2 _ a A2 _ σ2 δ2 hn (I2.step s3) ⟨T, _, _, rfl, .inl ⟨I2.dom.nm nT, upd_same⟩, (show V.int _ = V.int _ by rw [ea]), Pa.st r I2.dom s3⟩ Q fun l el I3 => q l A2 _ el s3 I3
def zipL {α β : Type} (xs : List α) (ys : List β) : List (T2 α β) := (xs.zip ys).map fun p => ⟨p.1, p.2⟩
theorem zipL_get {xs : List α} {ys : List β} {i : Nat} {t : T2 α β} (e : (zipL xs ys)[i]? = some t) : xs[i]? = some t.a ∧ ys[i]? = some t.b := by
  unfold zipL at e
  rw [List.getElem?_map, Option.map_eq_some_iff] at e
  obtain ⟨p, h, rfl⟩ := e
  exact List.getElem?_zip_eq_some.mp h
def rngL (lo : Int) (n : Nat) : List Int := (List.range n).map fun i : Nat => lo + (i : Int)
theorem rngL_get {lo : Int} {n i : Nat} {a : Int} (e : (rngL lo n)[i]? = some a) : i < n ∧ a = lo + i := by
  unfold rngL at e
  rw [List.getElem?_map, Option.map_eq_some_iff] at e
  obtain ⟨k, h, rfl⟩ := e
  obtain ⟨h1, h2⟩ := List.getElem?_eq_some_iff.mp h
  rw [List.getElem_range] at h2
  rw [List.length_range] at h1
  subst h2
  exact ⟨h1, rfl⟩
theorem rng_ok {g : TG} {bd : Int → List Sl → List Sl} {js : List Nat} {lo : Int} {k : Nat} {n : Nat} {A1 : Av} {H1 : Hp} (hg : EvG Γ g bd js n) : ItOk Γ (Itr lo k) g (rngL lo k) bd js n A1 H1 := by
  refine ⟨fun A H _ _ => ?_, fun i a e A H _ _ => ?_⟩
  · show k ≤ (rngL lo k).length
    unfold rngL; simp
  · obtain ⟨h1, rfl⟩ := rngL_get e
    refine ⟨h1, fun x H' y σ2 δ2 hn I2 Q q => ?_⟩
    obtain ⟨rfl, rfl⟩ := y
    exact hg.2 _ _ A _ σ2 δ2 hn I2 rfl Q fun l el I3 => q l A _ el (St.refl I2.dom) I3
theorem ei_range1 {g : TG} {bd : Int → List Sl → List Sl} {js : List Nat} {m : W Int} (h : EvT Γ te δ m) (hg : EvG Γ g bd js δ.length) : EvI Γ (iRng1 (tCons te tNil)) g δ (m >>= fun j => W.need (-(2 ^ 62) ≤ j ∧ j < 2 ^ 62) >>= fun _ => pure (rngL 0 j.toNat)) bd js := fun σ A H R I q =>
  h σ A H _ I (m.mono (fun j q v A1 H1 s1 r1 => ⟨j, by rw [show v = .int j from r1], q.1.1, q.1.2, q.2 _ A1 H1 s1 (rng_ok hg)⟩) (fun _ h => h) q)
theorem ei_range2 {g : TG} {bd : Int → List Sl → List Sl} {js : List Nat} {m n : W Int} (h : EvT Γ ta δ m) (h' : EvT Γ tb δ n) (hg : EvG Γ g bd js δ.length) :
    EvI Γ (iRng2 (tCons ta (tCons tb tNil))) g δ (m >>= fun i => n >>= fun j => W.need (-(2 ^ 62) ≤ i ∧ i < 2 ^ 62 ∧ -(2 ^ 62) ≤ j ∧ j < 2 ^ 62) >>= fun _ => pure (rngL i (j - i).toNat)) bd js := fun σ A H R I q => by
  refine h σ A H _ I (m.mono (fun i q v A1 H1 s1 r1 => ?_) (fun _ h => h) q)
  refine h' σ A1 H1 _ (I.step s1) (n.mono (fun j q w A2 H2 s2 r2 => ?_) (fun _ h => h) q)
  exact ⟨i, j, by rw [show v = .int i from r1, show w = .int j from r2], q.1, q.2 _ A2 H2 (s1.trans s2) (rng_ok hg)⟩

/-! ### comprehensions -/
def wipeS (δ : List Sl) : List Nat → List Sl
  | [] => δ
  | v :: vs => (wipeS δ vs).set v .un
theorem wipeS_len (δ : List Sl) : ∀ js, (wipeS δ js).length = δ.length
  | [] => rfl
  | v :: vs => by rw [wipeS, List.length_set, wipeS_len δ vs]
theorem Iv.wipe (I : Iv Γ A H σ δ) : ∀ js : List Nat, Iv Γ A H (wipe σ js) (wipeS δ js)
  | [] => I
  | v :: vs => by
    have J := I.wipe vs
    refine ⟨by rw [wipe_length, wipeS_len, I.len], fun j t e => ?_, fun j k t u q hjk ej ek ot ou pj pk => ?_, I.d0, I.st, I.er⟩
    · show ∃ o, ((L2.wipe σ vs).set v none)[j]? = some o ∧ _
      by_cases hj : v = j
      · subst hj
        by_cases hv : v < (wipeS δ vs).length
        · rw [wipeS, List.getElem?_set_self hv] at e
          cases e
          exact ⟨none, by rw [List.getElem?_set_self (by rw [J.len]; exact hv)], trivial⟩
        · rw [wipeS, List.getElem?_eq_none (by simpa using hv)] at e
          cases e
      · rw [wipeS, List.getElem?_set_ne hj] at e
        rw [List.getElem?_set_ne hj]
        exact J.at_ j t e
    · have nv : ∀ (j : Nat) (t : Sl), (wipeS δ (v :: vs))[j]? = some t → t.own = true → v ≠ j := fun j t e o hj => by
        subst hj
        by_cases hv : v < (wipeS δ vs).length
        · rw [wipeS, List.getElem?_set_self hv] at e
          cases e; cases o
        · rw [wipeS, List.getElem?_eq_none (by simpa using hv)] at e
          cases e
      have h1 := nv j t ej ot
      have h2 := nv k u ek ou
      rw [wipeS, List.getElem?_set_ne h1] at ej
      rw [wipeS, List.getElem?_set_ne h2] at ek
      rw [show L2.wipe σ (v :: vs) = (L2.wipe σ vs).set v none from rfl, List.getElem?_set_ne h1] at pj
      rw [show L2.wipe σ (v :: vs) = (L2.wipe σ vs).set v none from rfl, List.getElem?_set_ne h2] at pk
      exact J.sep j k t u q hjk ej ek ot ou pj pk
theorem wipe_get (σ : L2.St) : ∀ (js : List Nat) (i : Nat), (wipe σ js)[i]? = if i ∈ js then σ[i]?.map (fun _ => none) else σ[i]?
  | [], i => by simp [L2.wipe]
  | v :: vs, i => by
    rw [show L2.wipe σ (v :: vs) = (L2.wipe σ vs).set v none from rfl]
    by_cases h : v = i
    · subst h
      rw [if_pos List.mem_cons_self]
      by_cases hl : v < σ.length
      · rw [List.getElem?_set_self (by rw [wipe_length]; exact hl), List.getElem?_eq_getElem hl]
        rfl
      · rw [List.getElem?_eq_none (by rw [List.length_set, wipe_length]; omega), List.getElem?_eq_none (by omega)]
        rfl
    · rw [List.getElem?_set_ne h, wipe_get σ vs i]
      have : i ∈ v :: vs ↔ i ∈ vs := by simp [Ne.symm h]
      simp only [this]
theorem wipe_idem (σ : L2.St) (js : List Nat) (l : List (Nat × V)) (h : l.map (·.1) = js) : wipe (sets (wipe σ js) l) js = wipe σ js := by
  refine List.ext_getElem? fun i => ?_
  rw [wipe_get, wipe_get]
  have hs : ∀ (l : List (Nat × V)) (τ : L2.St), (sets τ l).length = τ.length ∧ (i ∉ l.map (·.1) → (sets τ l)[i]? = τ[i]?) := by
    intro l
    induction l with
    | nil => intro τ; exact ⟨rfl, fun _ => rfl⟩
    | cons p l ih =>
      intro τ
      obtain ⟨h1, h2⟩ := ih (τ.set p.1 (some p.2))
      refine ⟨by rw [show sets τ (p :: l) = sets (τ.set p.1 (some p.2)) l from rfl, h1, List.length_set], fun hn => ?_⟩
      rw [List.map_cons, List.mem_cons, not_or] at hn
      rw [show sets τ (p :: l) = sets (τ.set p.1 (some p.2)) l from rfl, h2 hn.2, List.getElem?_set_ne (Ne.symm hn.1)]
  obtain ⟨h1, h2⟩ := hs l (wipe σ js)
  by_cases hi : i ∈ js
  · rw [if_pos hi, if_pos hi]
    by_cases hl : i < σ.length
    · rw [List.getElem?_eq_getElem (by rw [h1, wipe_length]; exact hl), List.getElem?_eq_getElem hl]
      rfl
    · rw [List.getElem?_eq_none (by rw [h1, wipe_length]; omega), List.getElem?_eq_none (by omega)]
  · rw [if_neg hi, if_neg hi, h2 (by rw [h]; exact hi), wipe_get, if_neg hi]
def compW {α β : Type} (t : α → W Bool) (e : α → W β) : List α → W (List β)
  | [] => pure []
  | x :: xs => (t x).q >>= fun b => if b = true then (e x).q >>= fun y => compW t e xs >>= fun r => pure (y :: r) else compW t e xs
/-- nothing may be raised -/
def Cxt.q (Γ : Cxt) : Cxt := { Γ with E := fun _ _ _ => False, Er := fun _ => False }
theorem Iv.q (I : Iv Γ A H σ δ) : Iv Γ.q A H σ δ := ⟨I.len, I.at_, I.sep, I.d0, I.st, fun _ _ _ _ _ h _ _ => h.elim⟩
theorem eb_yes : EvB Γ tYes δ (pure true) := fun σ A H Q I q => q A H (St.refl I.dom)
theorem ef_comp [Py β] {wi : TI} {g : TG} {tt : TT} {m : W (List α)} {bd : α → List Sl → List Sl} {js : List Nat} {t : α → W Bool} {e : α → W β} (hi : EvI Γ wi g δ m bd js) (ht : ∀ a, EvB Γ.q tt (bd a (wipeS δ js)) (t a)) (he : ∀ a, EvT Γ.q te (bd a (wipeS δ js)) (e a)) :
    EvF Γ (tLc wi g tt te js) δ (m >>= fun xs => W.need (xs.length ≤ sizeLine) >>= fun _ => compW t e xs) := fun σ A H Q I q => by
  refine hi σ A H _ I (m.mono (fun xs q J A1 H1 s1 ok => ?_) (fun _ h => h) q)
  obtain ⟨hz, q⟩ := q
  intro D nD
  have s2 : St A1 H1 (A1.add D) (upd H1 D (.lst [])) := St.newM s1.d nD
  refine ⟨fun i k H => k + i = xs.length ∧ ∃ A vs acc, St A1 H1 A H ∧ A.M D ∧ ¬ A.B D ∧ H D = some (.lst vs) ∧ All2 (rep Γ.G A H) vs acc ∧ acc.length ≤ i ∧
      (compW t e (xs.drop i)).run (fun r => ∀ vs A' H', A'.M D → ¬ A'.B D → St A1 H1 A' H' → H' D = some (.lst vs) → All2 (rep Γ.G A' H') vs (acc ++ r) → Q (.ref D) H') Γ.Er,
    ⟨xs.length, rfl, A1.add D, [], [], s2, .inr rfl, fun b => s1.d.nm nD (s1.d.s D b), upd_same, .nil, Nat.le_refl _, ?_⟩, ?_⟩
  · refine (compW t e xs).mono (fun r q vs A' H' hm hb st h k => ?_) (fun _ h => h) q
    exact q D vs A' H' (s1.none nD) hm hb (s1.trans st) h k
  rintro i k H2 ⟨hk, A2, vs, acc, st2, hM, hB, hD, ka, hl, q2⟩
  have I2 : Iv Γ A2 H2 σ δ := (I.step s1).step st2
  by_cases hi : i < xs.length
  · obtain ⟨go, tn⟩ := ok.turn i xs[i] (List.getElem?_eq_getElem hi) A2 H2 I2.st (st2.mv s1.d)
    rw [List.drop_eq_getElem_cons hi] at q2
    refine .inr ⟨go, fun H3 => ∃ A vs acc, St A1 H1 A H3 ∧ A.M D ∧ ¬ A.B D ∧ H3 D = some (.lst vs) ∧ All2 (rep Γ.G A H3) vs acc ∧ acc.length ≤ i + 1 ∧
      (compW t e (xs.drop (i + 1))).run (fun r => ∀ vs A' H', A'.M D → ¬ A'.B D → St A1 H1 A' H' → H' D = some (.lst vs) → All2 (rep Γ.G A' H') vs (acc ++ r) → Q (.ref D) H') Γ.Er,
      fun H3 ⟨A3, vs3, acc3, a, b, c, d, e3, f, g3⟩ => ⟨k - 1, by omega, by omega, A3, vs3, acc3, a, b, c, d, e3, f, g3⟩, fun x H' y => ?_⟩
    refine tn x H' y _ (wipeS δ js) (wipeS_len δ js) (I2.wipe js) _ fun l A3 H3 el s3 I3 => ⟨wipe_idem σ js l el, ?_⟩
    refine ht xs[i] _ A3 H3 _ I3.q ((t xs[i]).mono (fun b q A4 H4 s4 => ?_) (fun _ h => h) q2)
    have s34 := s3.trans s4
    cases b with
    | false =>
      refine iteF ⟨A4, vs, acc, st2.trans s34, s34.ms D hM, fun z => (s34.nb D z).elim hB (fun y => by rw [y] at hD; cases hD), s34.k D _ hB hD, ka.imp fun _ _ r => Pa.st r st2.d s34, by omega, by simpa using q⟩
    | true =>
      refine iteT (he xs[i] _ A4 H4 _ (I3.q.step s4) ((e xs[i]).mono (fun y q v A5 H5 s5 r5 => ?_) (fun _ h => h) (by simpa [Cxt.q] using q)))
      have s35 := s34.trans s5
      have hD5 := s35.k D _ hB hD
      have hB5 : ¬ A5.B D := fun z => (s35.nb D z).elim hB fun y => by rw [y] at hD; cases hD
      have hM5 := s35.ms D hM
      have mv : Mv A5 H5 A5 (upd H5 D (.lst (vs ++ [v]))) := Mv.chg s5.d hM5 hB5
      refine ⟨vs, hD5, by rw [ka.len]; omega, A5, vs ++ [v], acc ++ [y], (st2.trans s35).chg nD hM5 hB5, hM5, hB5, upd_same, ((ka.imp fun _ _ r => Py.mv (Pa.st r st2.d s35) mv)).app (.cons (Py.mv r5 mv) .nil), by simp; omega, ?_⟩
      refine (compW t e (xs.drop (i + 1))).mono (fun r q => ?_) (fun _ h => h) q
      simpa using q
  · have ei : i = xs.length := by omega
    subst ei
    rw [List.drop_length] at q2
    refine .inl ⟨ok.stop A2 H2 I2.st (st2.mv s1.d), ?_⟩
    exact q2 vs A2 H2 hM hB st2 hD (by simpa using ka)
end
end TW
set_option Elab.async false
set_option maxRecDepth 100000
set_option maxHeartbeats 4000000
namespace My
open PySem PySem.Spec PyProof.Rows L2
/-! ### own error classes with one field -/
structure ErrF (K : PySem.W.Frag) (mg : Str → Option Value) (x f : Str) (C fI : Addr) (fd : FuncData) : Prop where
  g : mg x = some (.ref C)
  oex : OexC K C
  iC : PySem.W.findIn K (.ref C) "__init__" = some (some (.ref fI))
  tI : PySem.W.typeIn K (.ref fI) = some (.type "function")
  b : Binds K fd ["self", f] []
  te : PySem.W.exmOne K (.ref C) (.ref C) = some true
  xf : XfC K C
  no : PySem.W.findIn K (.ref C) f = some none
section
variable {X : Cx} {x f : Str} {p pos : Pos} {e : Expr} {te : TE}
/-- what a callee raises, handed on -/
theorem pass_of {E : XK} (tk : Takes X (fun cls d _ H => E cls d H)) : Passes (L2.CX X.prog X.w) X E := fun _ _ _ _ e s' I c => tk e s' (XE.of_call I (fun _ _ _ h => h) c)
end
end My
set_option Elab.async false
set_option maxRecDepth 100000
set_option maxHeartbeats 4000000
namespace My
open PySem PySem.Spec PyProof.Rows L2
/-! ### raise C(), C an own error class whose __init__ does nothing -/
section
variable {X : Cx} {x : Str} {p pos : Pos}
end
end My
set_option Elab.async false
set_option maxRecDepth 100000
set_option maxHeartbeats 4000000
namespace My
open PySem PySem.Spec PyProof.Rows L2 ClX
/-! ### own comparisons of instances with a dict; classes in slots; class methods with keywords -/
section
variable {X : Cx} {CX : CXT} {C g : Addr} {n : Nat} {sp : Sp} {E : XK}
end
section
variable {X : Cx} {CX : CXT} {k i n : Nat} {f C p g : Addr} {fd : FuncData} {ps ks : List Str} {sp : Sp} {dvs : List V} {ds : List Value} {E : XK} {ES : L2.St → XK} {x m : Str} {pp pos apos : Pos} {e o : Expr} {es : List Expr} {kws : List Keyword} {t tk : TA} {ta : TE} {mc : Value} {pl : Sem Bool}
  {gg : List Value → List Value → List Value} {gV : List V → List V → List V}
end
end My
set_option Elab.async false
set_option maxRecDepth 100000
set_option maxHeartbeats 4000000
set_option linter.all false
set_option autoImplicit false
/-! TW4: defs, calls, exceptions, objects -/
namespace TW
open Pa (rep)
open PaL (repL)
open PySem PySem.Spec PyProof.Rows L2 My

/-! ### defs -/
/-- arguments as slots -/
class Ar (α : Type) extends Pa α where
  sl : α → Sl
  ok : ∀ {G A H v a}, rep G A H v a → SlR G A H A H (some v) (sl a)
  no : ∀ a, (sl a).own = false
instance {α : Type} [Py α] : Ar α := { toPa := inferInstance, sl := fun a => .fx α a, ok := fun h => ⟨_, rfl, h⟩, no := fun _ => rfl }
instance {α : Type} [Py α] : Ar (Bor α) := { toPa := inferInstance, sl := fun a => .bo α a.l, ok := fun ⟨p, vs, e, h, k⟩ => ⟨_, p, vs, rfl, e, h, k⟩, no := fun _ => rfl }
class ArL (τ : Type) [PaL τ] where
  sls : τ → List Sl
  len : ∀ t, (sls t).length = PaL.n τ
  ok : ∀ {G A H vs t}, repL G A H vs t → ∀ (i : Nat) (s : Sl), (sls t)[i]? = some s → ∃ v, vs[i]? = some v ∧ SlR G A H A H (some v) s
  no : ∀ t s, s ∈ sls t → s.own = false
instance : ArL Nl := ⟨fun _ => [], fun _ => rfl, fun _ i s e => by simp at e, fun _ s h => by simp at h⟩
instance instArLCn {α τ : Type} [Ar α] [PaL τ] [ArL τ] : ArL (Cn α τ) where
  sls := fun t => Ar.sl t.a :: ArL.sls t.r
  len := fun t => by rw [List.length_cons, ArL.len t.r]; rfl
  ok := fun {G A H vs t} ⟨v, r, e, h, k⟩ i s es => by
    subst e
    cases i with
    | zero => cases es; exact ⟨v, rfl, Ar.ok h⟩
    | succ i => exact ArL.ok k i s es
  no := fun t s h => by
    rcases List.mem_cons.mp h with rfl | h
    · exact Ar.no t.a
    · exact ArL.no t.r s h
/-- the promise of a def by its program of values -/
def SpF {τ β : Type} [PaL τ] [Pa β] (G : Gx) (m : τ → W β) : Sp := fun vs H Q E => ∃ A t, Dom A H ∧ repL G A H vs t ∧
  (m t).run (fun b => ∀ v A' H', St A H A' H' → rep G A' H' v b → Q v H') (fun e => ∀ cls d A' H', St A H A' H' → ExR G A' H' e cls d → E cls d H')
def BodyOk {β : Type} [Pa β] (Γ : Cxt) (ts : TS) (δ : List Sl) (m : W β) : Prop := ∀ σ A H Q, Iv Γ A H σ δ →
  m.run (fun b => ∀ v A' H', St Γ.A0 Γ.H0 A' H' → rep Γ.G A' H' v b → Q v H') Γ.Er → ts { nx := fun _ H' => Q .non H', rt := Q } σ H
/-- falling off the end is no return -/
def finR {S β L : Type} (m : W (Res S β L)) : W β := m >>= fun r => match r with
  | .rt b => pure b
  | _ => W.fail
def finN {S L : Type} (m : W (Res S Unit L)) : W Unit := m >>= fun r => match r with
  | .rt b => pure b
  | .nx _ => pure ()
  | _ => W.fail
def finO {S β L : Type} (m : W (Res S (Option β) L)) : W (Option β) := m >>= fun r => match r with
  | .rt b => pure b
  | .nx _ => pure none
  | _ => W.fail
section
variable {Γ : Cxt} {A A' : Av} {H H' : Hp} {σ : L2.St} {δ δ' : List Sl} {S L α β γ τ : Type} {Δ : S → List Sl} {ΔL : L → List Sl} {ts : TS} {te : TE} {tl : TA}
theorem bo_ret [Pa β] {m : W (Res S β L)} (h : StT Γ ts δ m Δ ΔL) : BodyOk Γ ts δ (finR m) := fun σ A H Q I q => by
  refine h σ A H _ I (m.mono (fun r q => ?_) (fun _ h => h) q)
  cases r <;> first | exact q | exact (show False from q).elim
theorem iv_start [PaL τ] [ArL τ] {G : Gx} {vs : List V} {t : τ} {N : List Str} {E : XK} {Er : Exn → Prop} (d : Dom A H) (h : repL G A H vs t) (hn : PaL.n τ ≤ N.length) (he : ∀ e cls d A' H', Er e → St A H A' H' → ExR G A' H' e cls d → E cls d H') :
    Iv ⟨G, A, H, E, Er⟩ A H (L2.start N vs) (ArL.sls t ++ List.replicate (N.length - PaL.n τ) .un) := by
  have hl := PaL.lenL h
  have hs := ArL.len t
  refine ⟨?_, fun i s e => ?_, fun i j s u p hij ei ej oi oj => ?_, d, St.refl d, he⟩
  · unfold L2.start
    rw [List.length_append, List.length_append, List.length_map, List.length_replicate, List.length_replicate, hl, hs]
  · by_cases hi : i < (ArL.sls t).length
    · rw [List.getElem?_append_left hi] at e
      obtain ⟨v, e1, r⟩ := ArL.ok h i s e
      refine ⟨some v, ?_, r⟩
      unfold L2.start
      rw [List.getElem?_append_left (by rw [List.length_map, hl, ← hs]; exact hi), List.getElem?_map, e1]
      rfl
    · rw [List.getElem?_append_right (by omega), List.getElem?_replicate] at e
      split at e
      · rename_i hlt
        cases e
        refine ⟨none, ?_, trivial⟩
        unfold L2.start
        rw [List.getElem?_append_right (by rw [List.length_map, hl, ← hs]; omega), List.getElem?_replicate, List.length_map, hl, ← hs, if_pos]
        omega
      · cases e
  · have no : ∀ (i : Nat) (s : Sl), (ArL.sls t ++ List.replicate (N.length - PaL.n τ) Sl.un)[i]? = some s → s.own = false := fun i s e => by
      have := List.mem_of_getElem? e
      rcases List.mem_append.mp this with z | z
      · exact ArL.no t s z
      · rw [List.eq_of_mem_replicate z]; rfl
    rw [no i s ei] at oi; cases oi
theorem def_ok {P : Program} {w : World} {K : PySem.W.Frag} {mg : Str → Option Value} {base : Heap} {cls : Nat → Addr} {x qual : Str} {st : Stmt} {f : Addr} {fd : FuncData} {N ps : List Str} {k : Nat} [PaL τ] [ArL τ] [Pa β] (m : τ → W β) (F : Fun K x qual st f fd) (S : FnScope N ps (defScope st))
    (hn : PaL.n τ = ps.length) (hn2 : PaL.n τ ≤ N.length)
    (body : ∀ (cdv : Value) (A : Around) (outer : List Env) (s : Shared) (H : Hp) (E : XK) (A0 : Av) (Er : Exn → Prop) (t : τ), Room k (A.deeper (envOfC qual (defScope st) s.heap.objs.size f cdv)) →
      ∃ ts, PSs (cxOf (L2.CX P w) P w K mg base N qual (defScope st) f cdv A outer s H E) (defBody st) ts ∧ BodyOk ⟨⟨K, cls⟩, A0, H, E, Er⟩ ts (ArL.sls t ++ List.replicate (N.length - PaL.n τ) .un) (m t)) :
    FnOk P w K mg base (L2.CX P w) (k + 1) f fd ps (SpF ⟨K, cls⟩ m) := by
  refine F.okX S (fun vs H Q E h => ?_) (fun cdv A outer s H vs Q E hr h => ?_)
  · obtain ⟨A, t, d, r, q⟩ := h
    rw [PaL.lenL r, hn]
  · obtain ⟨A0, t, d, r, q⟩ := h
    obtain ⟨ts, hp, hb⟩ := body cdv A outer s H E A0 (fun e => ∀ cl d A' H', St A0 H A' H' → ExR ⟨K, cls⟩ A' H' e cl d → E cl d H') t hr
    refine ⟨ts, hp, hb _ A0 H Q (iv_start d r hn2 fun e cl d A' H' h s x => h cl d A' H' s x) q⟩
/-! ### calls -/
theorem Iv.erq (I : Iv Γ A H σ δ) {A1 : Av} {H1 : Hp} (s : St A H A1 H1) (e : Exn) (h : Γ.Er e) : ∀ cls d A' H', St A1 H1 A' H' → ExR Γ.G A' H' e cls d → Γ.E cls d H' := fun cls d A' H' s' x => I.er e cls d A' H' h ((I.st.trans s).trans s') x
theorem ev_call [PaL τ] [Pa β] {f : τ → W β} {m : W τ} (h : EvA Γ tl δ m) : EvT Γ (tCall (SpF Γ.G f) [] Γ.E tl) δ (m >>= f) := fun σ A H Q I q => by
  refine h σ A H _ I (m.mono (fun t q vs A1 H1 s1 r1 => ?_) (fun _ h => h) q)
  rw [List.append_nil]
  exact ⟨A1, t, s1.d, r1, (f t).mono (fun b q v A2 H2 s2 r2 => q v A2 H2 (s1.trans s2) r2) (fun e he => I.erq s1 e he) q⟩
/-! ### exceptions -/
class ToD (α : Type) [Pa α] where
  d : α → D
  ok : ∀ {G A H v} {a : α}, rep G A H v a → rep G A H v (d a)
instance : ToD Int := ⟨.int, fun {G A H v a} (h : v = _) => by show repD _ _ _ _ _; unfold repD; exact h⟩
instance : ToD Bool := ⟨.bl, fun {G A H v a} (h : v = _) => by show repD _ _ _ _ _; unfold repD; exact h⟩
instance : ToD Str := ⟨.str, fun {G A H v a} (h : v = _) => by show repD _ _ _ _ _; unfold repD; exact h⟩
instance : ToD Unit := ⟨fun _ => .non, fun {G A H v a} (h : v = _) => by show repD _ _ _ _ _; unfold repD; exact h⟩
instance : ToD D := ⟨id, fun h => h⟩
instance [Py α] [ToD α] : ToD (Option α) := ⟨fun o => match o with | none => .non | some a => ToD.d a, fun {G A H v a} h => by
  cases a with
  | none => show repD _ _ _ _ _; unfold repD; exact h
  | some a => exact ToD.ok h.2⟩
theorem All2.toD [Py α] [ToD α] {G : Gx} {vs : List V} {xs : List α} (k : All2 (rep G A H) vs xs) : repDs G A H (xs.map ToD.d) vs := by
  rw [repDs_iff]
  induction k with
  | nil => exact .nil
  | cons r _ ih => exact .cons (ToD.ok r) ih
instance [Py α] [ToD α] : ToD (List α) := ⟨fun l => .lst (l.map ToD.d), fun {G A H v a} ⟨p, vs, e, h, k⟩ => by show repD _ _ _ _ _; unfold repD; exact ⟨p, vs, e, h, k.toD⟩⟩
instance [Py α] [ToD α] : ToD (Tup α) := ⟨fun l => .tup (l.l.map ToD.d), fun {G A H v a} ⟨p, vs, e, h, k⟩ => by show repD _ _ _ _ _; unfold repD; exact ⟨p, vs, e, h, k.toD⟩⟩
instance [Py α] [Py β] [ToD α] [ToD β] : ToD (T2 α β) := ⟨fun t => .tup [ToD.d t.a, ToD.d t.b], fun {G A H v a} ⟨p, x, y, e, h, h1, h2⟩ => by show repD _ _ _ _ _; unfold repD; exact ⟨p, _, e, h, by rw [repDs_iff]; exact .cons (ToD.ok h1) (.cons (ToD.ok h2) .nil)⟩⟩
instance [Py α] [Py β] [Py γ] [ToD α] [ToD β] [ToD γ] : ToD (T3 α β γ) := ⟨fun t => .tup [ToD.d t.a, ToD.d t.b, ToD.d t.c], fun {G A H v a} ⟨p, x, y, z, e, h, h1, h2, h3⟩ => by show repD _ _ _ _ _; unfold repD; exact ⟨p, _, e, h, by rw [repDs_iff]; exact .cons (ToD.ok h1) (.cons (ToD.ok h2) (.cons (ToD.ok h3) .nil))⟩⟩
/-! ### objects -/
class Obj (α : Type) where
  nm : Nat
  fds : α → List Fd
def repO {α : Type} [Obj α] (G : Gx) (A : Av) (H : Hp) (v : V) (o : α) : Prop := ∃ a dx ws, v = .ref a ∧ (¬ A.M a ∧ H a = some (.ins (G.cls (Obj.nm α)) dx ws)) ∧ All2 (FdR G A H) ws (Obj.fds o)
@[reducible] def pyObj (α : Type) [Obj α] : Py α where
  rep := repO
  st := fun ⟨a, dx, ws, e, ⟨n, h⟩, k⟩ d s => ⟨a, dx, ws, e, ⟨fun m => (s.nm a m).elim n (fun z => by rw [h] at z; cases z), s.k a _ (fun b => n (d.s a b)) h⟩, k.imp fun _ q r => ⟨r.1, q.i.st r.2 d s⟩⟩
  mv := fun ⟨a, dx, ws, e, ⟨n, h⟩, k⟩ s => ⟨a, dx, ws, e, ⟨fun m => (s.m a m).elim n (fun z => by rw [h] at z; cases z), s.k a _ n h⟩, k.imp fun _ q r => ⟨r.1, q.i.mv r.2 s⟩⟩
/-- an object's type -/
class PyO (α : Type) extends Obj α, Py α where
  is : ∀ {G A H v} {o : α}, rep G A H v o ↔ repO G A H v o
instance [PyO α] : NN α := ⟨fun {G A H v a} h e => by
  obtain ⟨p, _, _, e', _⟩ := PyO.is.mp h
  rw [e'] at e; cases e⟩
/-- abbreviations of blocks -/
abbrev setW {α β L : Type} (m : W α) : W (Res α β L) := m >>= fun a => pure (.nx a)
abbrev retW {S β L : Type} (m : W β) : W (Res S β L) := m >>= fun a => pure (.rt a)
abbrev dropW {α β L : Type} (m : W α) : W (Res Unit β L) := m >>= fun _ => pure (.nx ())
abbrev ifW {α : Type} (c : W Bool) (m n : W α) : W α := c >>= fun b => if b = true then m else n
end
/-- a def that raises nothing -/
theorem fn_cx0 {P : Program} {w : World} {K : PySem.W.Frag} {mg : Str → Option Value} {base : Heap} {k : Nat} {f : Addr} {fd : FuncData} {ps : List Str} {sp sp' : Sp} (F : FnOk P w K mg base (L2.CX P w) k f fd ps sp) (h : ∀ vs H Q E, sp' vs H Q E → sp vs H Q E0) : FnOk P w K mg base CX0 k f fd ps sp' := by
  refine ⟨fun vs H Q E q => F.len vs H Q E0 (h _ _ _ _ q), fun A outer s H args us vs Q E hr e0 hb hv hs => ?_⟩
  refine codeAny_mono (F.run A outer s H args us vs Q E0 hr e0 hb hv (h _ _ _ _ hs)) fun r s' hq => ?_
  cases r with
  | error e =>
    obtain ⟨_, _, _, _, _, _, _, _, _, _, _, _, z⟩ := hq
    exact z.elim
  | ok fl => cases fl <;> exact hq
end TW
set_option Elab.async false
set_option maxRecDepth 100000
set_option maxHeartbeats 4000000
namespace My
open PySem L2
/-! ### lists of ints and of bools as data -/
theorem lay_ints : ∀ ns : List Int, PyData.canLayAll0 (ns.map PyData.int) = true ∧ PyData.depthAll (ns.map PyData.int) = 0
  | [] => by simp [PyData.canLayAll0, PyData.depthAll]
  | n :: r => by
    have h := lay_ints r
    simp [PyData.canLayAll0, PyData.depthAll, PyData.canLay0, PyData.depth, h.1, h.2]
theorem shaped_ints (ns : List Int) : SeqAt.shaped (.list (ns.map .int)) = true := by
  have h := lay_ints ns
  simp [SeqAt.shaped, PyData.canLay0, PyData.depth, h.1, h.2]
theorem shaped_intsT (ns : List Int) : SeqAt.shaped (.tuple (ns.map .int)) = true := by
  have h := lay_ints ns
  simp [SeqAt.shaped, PyData.canLay0, PyData.depth, h.1, h.2]
theorem eqv_ints : ∀ ns ms : List Int, PyData.eqvAll (ns.map .int) (ms.map .int) = decide (ns = ms)
  | [], [] => by simp [PyData.eqvAll]
  | [], _ :: _ => by simp [PyData.eqvAll]
  | _ :: _, [] => by simp [PyData.eqvAll]
  | n :: r, m :: t => by
    have h := eqv_ints r t
    simp only [List.map_cons, PyData.eqvAll, PyData.eqv, h, List.cons.injEq, Bool.decide_and]
    congr 1
/-! ### day sets as naturals -/
end My
set_option Elab.async false
set_option maxRecDepth 100000
set_option maxHeartbeats 4000000
set_option linter.all false
set_option autoImplicit false
/-! TW5: further rules -/
namespace TW
open Pa (rep)
open PaL (repL)
open PySem PySem.Spec PyProof.Rows L2 My
section
variable {Γ : Cxt} {A A' : Av} {H H' : Hp} {σ : L2.St} {δ δ' : List Sl} {S S1 L α β γ τ : Type} {Δ : S → List Sl} {ΔL : L → List Sl} {ts : TS} {ta tb te : TE} {tl : TA}
theorem st_map [Pa β] {Δ1 : S1 → List Sl} {m : W (Res S1 β L)} (g : S1 → S) (h : StT Γ ts δ m Δ1 ΔL) (k : ∀ s, Le (Δ1 s) (Δ (g s))) : StT Γ ts δ (seqW m fun s => pure (.nx (g s))) Δ ΔL := fun σ A H D I q => by
  refine h σ A H _ I (m.mono (fun r q => ?_) (fun _ h => h) q)
  cases r with
  | nx s => exact fun σ' A' H' m I' => q σ' A' H' m (I'.le (k s))
  | rt b => exact q
  | bk l => exact q
  | ct l => exact q
/-! ### == of data -/
class Dt (α : Type) [Pa α] where
  d : α → PyData
  ok : ∀ {G A H v} {a : α}, rep G A H v a → Dp G.K H v (d a)
instance : Dt Int := ⟨.int, fun {G A H v a} (h : v = _) => by rw [h]; exact .int _⟩
instance : Dt Bool := ⟨.bool, fun {G A H v a} (h : v = _) => by rw [h]; exact .bl _⟩
instance : Dt Str := ⟨.str, fun {G A H v a} (h : v = _) => by rw [h]; exact .str _⟩
instance : Dt Unit := ⟨fun _ => .none, fun {G A H v a} (h : v = _) => by rw [h]; exact .non⟩
instance [Py α] [Dt α] : Dt (Option α) := ⟨fun o => match o with | none => .none | some a => Dt.d a, fun {G A H v a} h => by
  cases a with
  | none => rw [show v = .non from h]; exact .non
  | some a => exact Dt.ok h.2⟩
theorem All2.dp [Py α] [Dt α] {G : Gx} {vs : List V} {xs : List α} (k : All2 (rep G A H) vs xs) : DpAll G.K H vs (xs.map Dt.d) := by
  induction k with
  | nil => exact .nil
  | cons r _ ih => exact .cons (Dt.ok r) ih
instance [Py α] [Dt α] : Dt (Bor α) := ⟨fun l => .list (l.l.map Dt.d), fun {G A H v a} h => by
  obtain ⟨p, vs, rfl, h, k⟩ := bor_sq h
  exact .lst h k.dp⟩
instance [Py α] [Dt α] : Dt (List α) := ⟨fun l => .list (l.map Dt.d), fun {G A H v a} ⟨p, vs, e, h, k⟩ => by subst e; exact .lst h.sq k.dp⟩
instance [Py α] [Dt α] : Dt (Tup α) := ⟨fun l => .tuple (l.l.map Dt.d), fun {G A H v a} ⟨p, vs, e, h, k⟩ => by subst e; exact .tup h.sq k.dp⟩
instance [Py α] [Py β] [Dt α] [Dt β] : Dt (T2 α β) := ⟨fun t => .tuple [Dt.d t.a, Dt.d t.b], fun {G A H v a} ⟨p, x, y, e, h, h1, h2⟩ => by subst e; exact .tup h.sq (.cons (Dt.ok h1) (.cons (Dt.ok h2) .nil))⟩
instance [Py α] [Py β] [Py γ] [Dt α] [Dt β] [Dt γ] : Dt (T3 α β γ) := ⟨fun t => .tuple [Dt.d t.a, Dt.d t.b, Dt.d t.c], fun {G A H v a} ⟨p, x, y, z, e, h, h1, h2, h3⟩ => by subst e; exact .tup h.sq (.cons (Dt.ok h1) (.cons (Dt.ok h2) (.cons (Dt.ok h3) .nil)))⟩
def shd [Pa α] [Dt α] (a : α) : Prop := SeqAt.shaped (Dt.d a) = true
def dtEq [Pa α] [Pa β] [Dt α] [Dt β] (a : α) (b : β) : Bool := PyData.eqv (Dt.d a) (Dt.d b)
theorem ov_eqD [Pa α] [Pa β] [Dt α] [Dt β] : OpV Γ (rEqD Γ.G.K) (fun (a : α) (b : β) => W.need (shd a ∧ shd b) >>= fun _ => (pure (dtEq a b) : W Bool)) := fun x y A H Q a b d hx hy q =>
  ⟨_, _, Dt.ok hx, Dt.ok hy, q.1.1, q.1.2, q.2 _ A H (St.refl d) rfl⟩
theorem ov_neD [Pa α] [Pa β] [Dt α] [Dt β] : OpV Γ (rNeD Γ.G.K) (fun (a : α) (b : β) => W.need (shd a ∧ shd b) >>= fun _ => (pure (!dtEq a b) : W Bool)) := fun x y A H Q a b d hx hy q =>
  ⟨_, _, Dt.ok hx, Dt.ok hy, q.1.1, q.1.2, q.2 _ A H (St.refl d) rfl⟩
@[simp] theorem shd_bi (a : Bor Int) : shd a := shaped_ints a.l
@[simp] theorem shd_li (a : List Int) : shd a := shaped_ints a
@[simp] theorem shd_ti (a : Tup Int) : shd a := shaped_intsT a.l
@[simp] theorem dtEq_bi (a b : Bor Int) : dtEq a b = decide (a.l = b.l) := by
  show PyData.eqv (.list (a.l.map .int)) (.list (b.l.map .int)) = _
  rw [← eqv_ints]; simp [PyData.eqv]
@[simp] theorem dtEq_ti (a b : Tup Int) : dtEq a b = decide (a.l = b.l) := by
  show PyData.eqv (.tuple (a.l.map .int)) (.tuple (b.l.map .int)) = _
  rw [← eqv_ints]; simp [PyData.eqv]
/-! ### in -/
def inF [Py α] [Py β] [Fl α] [Fl β] (a : α) (l : List β) : Bool := inV (Fl.to a) (l.map Fl.to)
theorem fl_flat [Py α] [Fl α] (a : α) : flatV (Fl.to a) = true := by
  rcases Fl.sc a with e | ⟨_, e⟩ | ⟨_, e⟩ | ⟨_, e⟩ <;> rw [e] <;> rfl
theorem All2.fl [Py α] [Fl α] {G : Gx} {vs : List V} {xs : List α} (k : All2 (rep G A H) vs xs) : vs = xs.map Fl.to := k.map_eq _ fun _ _ r => Fl.rp r
theorem all_flat [Py α] [Fl α] (xs : List α) : (xs.map (Fl.to (α := α))).all flatV = true := by
  rw [List.all_map]
  exact List.all_eq_true.mpr fun a _ => fl_flat a
theorem ov_notinL [Py α] [Py β] [Fl α] [Fl β] : OpV Γ (rIn Γ.G.K true) (fun (a : α) (b : Bor β) => (pure (!inF a b.l) : W Bool)) := fun x y A H Q a b d hx hy q => by
  obtain ⟨p, vs, rfl, h, k⟩ := bor_sq hy
  have e := Fl.rp hx
  subst e
  rw [k.fl] at h
  exact ⟨p, _, rfl, .inl h, fl_flat a, all_flat b.l, q _ A H (St.refl d) rfl⟩
@[simp] theorem inF_ii (a : Int) (l : List Int) : inF a l = decide (a ∈ l) := by
  induction l with
  | nil => rfl
  | cons b l ih =>
    show (eqV (.int b) (.int a) || inF a l) = _
    rw [ih]
    show ((b == a) || _) = _
    by_cases h : a = b
    · subst h; simp
    · simp [h, Ne.symm h]
end
end TW
set_option Elab.async false
set_option maxRecDepth 100000
set_option maxHeartbeats 4000000
set_option linter.all false
set_option autoImplicit false
/-! TW6: objects that are gone through by their own iter -/
namespace TW
open Pa (rep)
open PaL (repL)
open PySem PySem.Spec PyProof.Rows L2 My
/-- what is gone is gone: no run brings a freed place back -/
def Gone (h h' : Heap) : Prop := h.objs.size ≤ h'.objs.size ∧ ∀ b, b < h.objs.size → h.get? b = none → h'.get? b = none
theorem Gone.refl (h : Heap) : Gone h h := ⟨Nat.le_refl _, fun _ _ e => e⟩
theorem Gone.trans {a b c : Heap} (x : Gone a b) (y : Gone b c) : Gone a c := ⟨Nat.le_trans x.1 y.1, fun d l e => y.2 d (Nat.lt_of_lt_of_le l x.1) (x.2 d l e)⟩
theorem Gone.push (h : Heap) (o : PySem.Obj) : Gone h (h.push o) := by
  refine ⟨?_, fun b l e => ?_⟩
  · show h.objs.size ≤ (h.objs.push o).size
    rw [Array.size_push]; omega
  · rw [Heap.get?_push_ne h b o (Nat.ne_of_lt l)]; exact e
theorem Gone.upd {h : Heap} {a : Addr} {f : PySem.Obj → PySem.Obj} (s : (h.get? a).isSome = true) : Gone h (h.update a f) := by
  refine ⟨?_, fun b l e => ?_⟩
  · show h.objs.size ≤ (h.objs.modify a f).size
    rw [Array.size_modify]; exact Nat.le_refl _
  · have hb : b ≠ a := fun z => by rw [← z, e] at s; cases s
    rw [Heap.get?_update_ne h b a f hb]; exact e
/-! ### the iterator of a tuple, told of -/
section
variable {X : Cx} {pins : List (Addr × PySem.Obj)} {σ : L2.St} {H : Hp} {s : Shared} {it t : Addr}
end
section
variable {Γ : Cxt} {te : TE} {δ : List Sl} {α β : Type}
end
end TW
set_option Elab.async false
set_option maxRecDepth 100000
set_option maxHeartbeats 4000000
set_option linter.all false
set_option autoImplicit false
/-! TW7: enumerate over tuples and over objects -/
namespace TW
open Pa (rep)
open PaL (repL)
open PySem PySem.Spec PyProof.Rows L2 My
section
variable {prog : Program} {w : World} {A : Around} {E : Value → Shared → Prop} {s : Shared}
end
section
variable {X : Cx} {e : Expr} {ta : TA} {p pos tpos : Pos} {elts : List Expr} {kk : Nat}
end
end TW
set_option Elab.async false
set_option maxRecDepth 100000
set_option maxHeartbeats 4000000
set_option linter.all false
set_option autoImplicit false
/-! TW8: walks with places, min with a default -/
namespace TW
open Pa (rep)
open PaL (repL)
open PySem PySem.Spec PyProof.Rows L2 My
open PySem.W (minOf HoldAll min_list_datum_default DatumOrd)
section
variable {Γ : Cxt} {te : TE} {δ : List Sl} {α β : Type}
end
/-! ### min(xs, default=d) of a list of whole numbers -/
end TW
set_option Elab.async false
set_option maxRecDepth 100000
set_option maxHeartbeats 4000000
set_option linter.all false
set_option autoImplicit false
/-! TW9: min with a default, sets of whole numbers -/
namespace TW
open Pa (rep)
open PaL (repL)
open PySem PySem.Spec PyProof.Rows L2 My
section
variable {Γ : Cxt} {te tl : TE} {δ : List Sl} {α β : Type}
def minO (xs : List Int) : Option Int := if xs = [] then none else some (minL xs)
end
/-! ### set(xs) of whole numbers -/
/-- the numbers without repeats, in the order of their first coming -/
def ddup (ns : List Int) : List Int := ns.foldl step_dedup []
theorem ddup_app (ns : List Int) (x : Int) : ddup (ns ++ [x]) = step_dedup (ddup ns) x := by unfold ddup; rw [List.foldl_append]; rfl
theorem ddup_first (ns : List Int) : firstMet (fun i => ns.getD i 0) ns.length = ddup ns := by
  unfold firstMet ddup
  congr 1
  refine List.ext_getElem (by simp) fun i h1 h2 => ?_
  simp at h1
  simp [h1]
theorem mem_ddup (ns : List Int) (k : Int) : k ∈ ddup ns ↔ k ∈ ns := by
  have h := firstMet_any (fun i => ns.getD i 0) ns.length k
  rw [ddup_first] at h
  have e : (List.range ns.length).map (fun i => ns.getD i 0) = ns := List.ext_getElem (by simp) fun i h1 h2 => by simp at h1; simp [h1]
  rw [e] at h
  have z : ∀ l : List Int, l.any (· == k) = true ↔ k ∈ l := fun l => by simp
  rw [← z, ← z, h]
theorem nodup_step {xs : List Int} {x : Int} (h : xs.Nodup) : (step_dedup xs x).Nodup := by
  unfold step_dedup
  split
  · exact h
  · rename_i n
    refine List.nodup_append.mpr ⟨h, by simp, fun a ha b hb e => n ?_⟩
    rw [List.mem_singleton.mp hb] at e
    subst e
    simpa using ha
theorem nodup_fold : ∀ (ns acc : List Int), acc.Nodup → (ns.foldl step_dedup acc).Nodup
  | [], _, h => h
  | n :: ns, acc, h => nodup_fold ns _ (nodup_step h)
theorem nodup_ddup (ns : List Int) : (ddup ns).Nodup := nodup_fold ns [] List.nodup_nil
/-- in order, without repeats: one list -/
def srtU (ns : List Int) : List Int := (ddup ns).mergeSort
theorem srtU_mem (ns : List Int) (k : Int) : k ∈ srtU ns ↔ k ∈ ns := by unfold srtU; rw [List.mem_mergeSort, mem_ddup]
theorem srtU_lt (ns : List Int) : (srtU ns).Pairwise (· < ·) := by
  have h1 : (srtU ns).Pairwise (fun a b => decide (a ≤ b) = true) := List.pairwise_mergeSort (fun a b c h1 h2 => by simp at *; omega) (fun a b => by simp; omega) _
  have h2 : (srtU ns).Nodup := (List.mergeSort_perm _ _).nodup_iff.mpr (nodup_ddup ns)
  exact lt_of_le_nodup _ (h1.imp (by simp)) h2
theorem lt_uniq : ∀ {a b : List Int}, a.Pairwise (· < ·) → b.Pairwise (· < ·) → (∀ k, k ∈ a ↔ k ∈ b) → a = b
  | [], [], _, _, _ => rfl
  | [], y :: b, _, _, h => absurd ((h y).mpr List.mem_cons_self) (by simp)
  | x :: a, [], _, _, h => absurd ((h x).mp List.mem_cons_self) (by simp)
  | x :: a, y :: b, ha, hb, h => by
    obtain ⟨a1, a2⟩ := List.pairwise_cons.mp ha
    obtain ⟨b1, b2⟩ := List.pairwise_cons.mp hb
    have e : x = y := by
      rcases List.mem_cons.mp ((h x).mp List.mem_cons_self) with e | m
      · exact e
      · rcases List.mem_cons.mp ((h y).mpr List.mem_cons_self) with e | m'
        · exact e.symm
        · have := a1 y m'; have := b1 x m; omega
    subst e
    congr 1
    refine lt_uniq a2 b2 fun k => ⟨fun m => ?_, fun m => ?_⟩
    · rcases List.mem_cons.mp ((h k).mp (List.mem_cons_of_mem _ m)) with e | m'
      · have := a1 k m; omega
      · exact m'
    · rcases List.mem_cons.mp ((h k).mpr (List.mem_cons_of_mem _ m)) with e | m'
      · have := b1 k m; omega
      · exact m'
def rSrtS (w : World) : List V → Hp → VK → Prop := fun xs H Q => ∃ (a : Addr) (ns : List Int) (n : Nat), xs = [.ref a] ∧ H a = some (SetO w a (fun j => decide (j ∈ ns)) n) ∧ n < 64 ∧ ∀ p, H p = none → Q (.ref p) (upd H p (.lst ((srtU ns).map V.int)))
theorem call_srtS {X : Cx} (hc : X.calm = true) : CallR X (.builtin "sorted") (rSrtS X.w) := by
  intro pins s σ H xs us Q I r ⟨a, ns, n, e, ha, hn, q⟩
  refine cr_sortedSet hc pins s σ H xs us Q I r ⟨a, _, n, e, ha, hn, fun ns' p h1 h2 _ h4 => ?_⟩
  have e : ns' = srtU ns := lt_uniq h1 (srtU_lt ns) fun k => by rw [h2 k, srtU_mem, decide_eq_true_eq]
  rw [e]
  exact q p h4
theorem ints_all2 {G : Gx} {A : Av} {H : Hp} : ∀ ns : List Int, All2 (rep G A H) (ns.map V.int) ns
  | [] => .nil
  | n :: ns => .cons rfl (ints_all2 ns)
section
variable {Γ : Cxt} {te : TE} {δ : List Sl}
end
end TW
set_option Elab.async false
set_option maxRecDepth 100000
set_option maxHeartbeats 4000000
set_option linter.all false
set_option autoImplicit false
/-! TW10: dicts by whole numbers -/
namespace TW
open Pa (rep)
open PaL (repL)
open PySem PySem.Spec PyProof.Rows L2 My
/-- a dict that is read -/
structure Dct (β : Type) where
  l : List (Int × β)
def KvR {β : Type} [Py β] (G : Gx) (A : Av) (H : Hp) (x : Key × V) (y : Int × β) : Prop := x.1 = Sum.inl y.1 ∧ rep G A H x.2 y.2
instance {β : Type} [Py β] : Py (Dct β) where
  rep := fun G A H v d => ∃ p kvs, v = .ref p ∧ (¬ A.M p ∧ H p = some (.dK kvs)) ∧ All2 (KvR G A H) kvs d.l
  st := fun ⟨p, kvs, e, ⟨n, h⟩, k⟩ d s => ⟨p, kvs, e, ⟨fun m => (s.nm p m).elim n (fun z => by rw [h] at z; cases z), s.k p _ (fun b => n (d.s p b)) h⟩, k.imp fun _ _ r => ⟨r.1, Pa.st r.2 d s⟩⟩
  mv := fun ⟨p, kvs, e, ⟨n, h⟩, k⟩ s => ⟨p, kvs, e, ⟨fun m => (s.m p m).elim n (fun z => by rw [h] at z; cases z), s.k p _ n h⟩, k.imp fun _ _ r => ⟨r.1, Py.mv r.2 s⟩⟩
section
variable {β : Type} [Py β] {G : Gx} {A : Av} {H : Hp}
end
section
variable {Γ : Cxt} {te tk td : TE} {δ : List Sl} {α β : Type}
end
end TW
set_option Elab.async false
set_option maxRecDepth 100000
set_option maxHeartbeats 4000000
namespace My
open PySem PySem.Spec PyProof.Rows L2 ClX
/-! ### an own operator between two instances of one class; C.m() -/
section
variable {X : Cx} {CX : CXT} {C g p : Addr} {k n : Nat} {sp : Sp} {E : XK} {o : Expr} {m : Str} {pos apos : Pos} {ta : TE} {mc : Value} {pl : Sem Bool}
end
end My
set_option Elab.async false
set_option maxRecDepth 100000
set_option maxHeartbeats 4000000
set_option linter.all false
set_option autoImplicit false
/-! TW11: len(o), o[i], o(..) and the like, by the class's own defs -/
namespace TW
open Pa (rep)
open PaL (repL)
open PySem PySem.Spec PyProof.Rows L2 My
section
variable {X : Cx} {pins : List (Addr × PySem.Obj)} {σ : L2.St} {H : Hp} {s : Shared} {CX : CXT} {k : Nat} {C g : Addr} {fd : FuncData} {ps : List Str} {sp : Sp} {E : XK}
/-! ### len(o) -/
/-! ### o[i] -/
end
/-! ### o(..) -/
section
variable {X : Cx} {CX : CXT} {k : Nat} {C g : Addr} {fd : FuncData} {ps : List Str} {sp : Sp} {E : XK} {o e : Expr} {es : List Expr} {to : TE} {ta : TA} {pos : Pos}
end
end TW
set_option Elab.async false
set_option maxRecDepth 100000
set_option maxHeartbeats 4000000
set_option linter.all false
set_option autoImplicit false
/-! TW12: by values: the class's own defs, kinds of values, classes as values -/
namespace TW
open Pa (rep)
open PaL (repL)
open PySem PySem.Spec PyProof.Rows L2 My
/-! ### kinds -/
structure Kd (G : Gx) (α : Type) [Pa α] where
  ty : α → Value
  ok : ∀ {A H v a}, rep G A H v a → TyX G.K H v (ty a)
section
variable {G : Gx} {α β : Type}
def kd_int : Kd G Int := ⟨fun _ => .type "int", fun h => by rw [show _ = V.int _ from h]; exact .base (.int _)⟩
theorem tyx_tup {p : Addr} {vs : List V} {A : Av} {H : Hp} (h : AtT G A H p vs) : TyX G.K H (.ref p) (.type "tuple") := by
  rcases h.sq with (h | ⟨o, h⟩) | ⟨o, its, n, e, c, _⟩
  · exact .base (.tup h)
  · exact .fTuple h
  · exact .kTuple e c
def kd_tup [Py α] : Kd G (Tup α) := ⟨fun _ => .type "tuple", fun h => by obtain ⟨p, vs, rfl, h, _⟩ := h; exact tyx_tup h⟩
/-- what of the text an instance's kind is -/
structure CTy (K : PySem.W.Frag) (C : Addr) : Prop where
  cl : Cls K C
  ha : PySem.W.findIn K (.ref C) "__class__" = some (some (.builtin "object.__class__"))
  hn : PySem.W.specialIn K (.builtin "object.__class__") "__get__" = some (some (.builtin "getset_descriptor.__get__"))
  tk : PySem.W.takesIn K (.builtin "object.__class__") = some true
  hm : PySem.W.mroIn K C (.type "object") = some true
/-- a class as a value -/
structure Kls (n : Nat) where
instance {n : Nat} : Py (Kls n) where
  rep := fun G _ _ v _ => v = .ref (G.cls n)
  st := fun h _ _ => h
  mv := fun h _ => h
end
section
variable {Γ : Cxt} {te to ti tc : TE} {tl : TA} {δ : List Sl} {α β γ τ : Type}
/-- isinstance(x, c) -/
theorem ev_isi [Pa α] {m : W α} {c : V} {u : Value} (kd : Kd Γ.G α) (kb : α → Bool) (cv : ClsV c u) (hb : ∀ a, PySem.W.kitOne Γ.G.K (kd.ty a) u = some (kb a)) (h : EvT Γ te δ m) :
    EvT Γ (tCB (rIsi Γ.G.K) (tCons te (tCons (tC c) tNil))) δ (m >>= fun a => (pure (kb a) : W Bool)) := fun σ A H Q I q => by
  refine h σ A H _ I (m.mono (fun a q v A1 H1 s1 r => ?_) (fun _ h => h) q)
  exact ⟨v, c, kd.ty a, u, kb a, rfl, cv, kd.ok r, hb a, q _ A1 H1 s1 rfl⟩
/-! ### own defs -/
end
end TW
set_option Elab.async false
set_option maxRecDepth 100000
set_option maxHeartbeats 4000000
namespace My
open PySem L2
/-! ### rules with the written part named: for the blocks of comprehensions -/
section
variable {X : Cx} {K : PySem.W.Frag}
theorem ix_listK (h : X.K = K) : IxR X (rIxL K) := by subst h; exact ix_list
theorem ix_tupK (h : X.K = K) : IxR X (rIxT K) := by subst h; exact ix_tup
def rLenK (K : PySem.W.Frag) : List V → Hp → VK → Prop := fun xs H Q => ∃ p ys, xs = [.ref p] ∧ (SqL K H p ys ∨ SqT K H p ys) ∧ Q (.int (ys.length : Nat)) H
theorem call_lenK (h : X.K = K) : CallR X (.builtin "len") (rLenK K) := by subst h; exact call_len_seq
theorem call_isiKn (h : X.K = K) : CallR X (.builtin "isinstance") (rIsi K) := by subst h; exact call_isi
end
end My
namespace My
open PySem L2
/-! ### comprehensions over a list, each element by itself -/
end My
set_option Elab.async false
set_option maxRecDepth 100000
set_option maxHeartbeats 4000000
set_option linter.all false
set_option autoImplicit false
/-! TW13: small things for the printed texts -/
namespace TW
open Pa (rep)
open PaL (repL)
open PySem PySem.Spec PyProof.Rows L2 My
section
variable {Γ : Cxt} {δ : List Sl} {S α β L : Type} {Δ : S → List Sl} {ΔL : L → List Sl}
end
def finI {α : Type} (m : W (Res α Unit Empty)) : W α := m >>= fun r => match r with
  | .nx o => pure o
  | _ => W.fail
/-- a def of the top as its callers see it -/
structure Df (K : PySem.W.Frag) (mg : Str → Option Value) (x : Str) (ps : List Str) (f : Addr) (fd : FuncData) : Prop where
  g : mg x = some (.ref f)
  kp : PySem.W.keepIn K (.ref f) = true
  b : Binds K fd ps []
section
variable {Γ : Cxt} {δ : List Sl} {α β γ τ : Type} {te ta tb : TE}
theorem ev_ca1 [Pa α] [Pa γ] {r : List V → Hp → VK → Prop} {f : Cn α Nl → W γ} {m : W α} (hr : CaV Γ r f) (h : EvT Γ te δ m) : EvT Γ (tCB r (tCons te tNil)) δ (m >>= fun a => f ⟨a, ⟨⟩⟩) := fun σ A H Q I q => by
  refine h σ A H _ I (m.mono (fun a q v A1 H1 s1 r1 => ?_) (fun _ h => h) q)
  exact hr [v] A1 H1 Q ⟨a, ⟨⟩⟩ s1.d ⟨v, [], rfl, r1, rfl⟩ ((f ⟨a, ⟨⟩⟩).mono (fun c q w A3 H3 s3 r3 => q w A3 H3 (s1.trans s3) r3) (fun _ h => h) q)
end
end TW
set_option Elab.async false
set_option maxRecDepth 100000
set_option maxHeartbeats 4000000
set_option linter.all false
set_option autoImplicit false
/-! TW14: texts, defs with defaults, the bag -/
namespace TW
open Pa (rep)
open PaL (repL)
open PySem PySem.Spec PyProof.Rows L2 My
section
variable {Γ : Cxt} {te : TE} {δ : List Sl}
end
section
variable {τ α β : Type} {P : Program} {w : World} {K : PySem.W.Frag} {mg : Str → Option Value} {base : Heap} {cls : Nat → Addr} {x qual : Str} {st : Stmt} {f : Addr} {fd : FuncData} {N ps : List Str} {k : Nat} {dvs : List V} {kws : List (Str × V)}
end
/-! ### the bag -/
def BagH (H : Hp) (b : Addr) : Prop := ∃ o, H b = some o ∧ BagO o
def Keep (b : Addr) (H H' : Hp) : Prop := ∀ a o, a ≠ b → H a = some o → H' a = some o
def sp_take0 : Sp := fun vs H Q _ => ∃ (b : Addr) (k : Int), vs = [.ref b, .int k] ∧ BagH H b ∧ 0 < k ∧ k < 2 ^ 8000 ∧ ∀ (r : Int) (H' : Hp), 0 ≤ r → r < k → BagH H' b → Keep b H H' → Q (.int r) H'
def w_take (_ : Bag) (k : Int) : W Int := W.need (0 < k ∧ k < 2 ^ 8000) >>= fun _ => W.pick fun r => 0 ≤ r ∧ r < k
theorem take_of {G : Gx} : ∀ vs H Q E, SpF G (fun t : Cn Bag (Cn Int Nl) => w_take t.a t.r.a) vs H Q E → sp_take0 vs H Q E := fun vs H Q E ⟨A, t, d, ⟨v, vs1, e1, ⟨p, ep, hb, ho⟩, v2, vs2, e2, ek, e3⟩, q⟩ => by
  cases e3
  obtain ⟨⟨k0, k1⟩, q⟩ := q
  refine ⟨p, t.r.a, by rw [e1, e2, ep, show v2 = V.int t.r.a from ek], ho, k0, k1, fun r H' h0 h1 hb2 kp => q r ⟨h0, h1⟩ _ A H' ?_ rfl⟩
  refine ⟨fun _ h => h, fun _ h => h, fun _ h => .inl h, fun _ h => .inl h, fun a o n e => kp a o (fun z => n (z ▸ hb)) e, fun a m => ?_, fun a b => ?_, d.s⟩
  · by_cases z : a = p
    · obtain ⟨o, e, _⟩ := hb2
      rw [z, e]; exact nofun
    · cases e : H a with
      | none => exact absurd e (d.m a m)
      | some o => rw [kp a o z e]; exact nofun
  · by_cases z : a = p
    · rw [z]; exact hb2
    · obtain ⟨o, e, bo⟩ := d.b a b
      exact ⟨o, kp a o z e, bo⟩
def sp_bag0 (K : PySem.W.Frag) : Sp := fun vs H Q _ => ∃ (a : Addr) (ns : List Int) (k : Int), vs = [.ref a, .int k] ∧ SqL K H a (ns.map V.int) ∧ ns.length ≤ 63 ∧ 0 ≤ k ∧ k < 1000 ∧
  ∀ (b : Addr) (o : HO) (H1 : Hp), Same H H1 → H1 b = none → BagO o → Q (.ref b) (upd H1 b o)
def w_bag (s : Scr) (k : Int) : W Bag := W.need (s.l.length ≤ 63 ∧ 0 ≤ k ∧ k < 1000) >>= fun _ => pure ⟨⟩
theorem same_st {A : Av} {H H' : Hp} (d : Dom A H) (s : Same H H') : St A H A H' := ⟨fun _ h => h, fun _ h => h, fun _ h => .inl h, fun _ h => .inl h, fun a o _ e => s a o e, fun a m => by
  cases e : H a with
  | none => exact absurd e (d.m a m)
  | some o => rw [s a o e]; exact nofun, fun a b => let ⟨o, e, bo⟩ := d.b a b; ⟨o, s a o e, bo⟩, d.s⟩
theorem bag_of {K : PySem.W.Frag} {cls : Nat → Addr} : ∀ vs H Q E, SpF ⟨K, cls⟩ (fun t : Cn Scr (Cn Int Nl) => w_bag t.a t.r.a) vs H Q E → sp_bag0 K vs H Q E := fun vs H Q E ⟨A, t, d, ⟨v, vs1, e1, ⟨p, ep, hs⟩, v2, vs2, e2, ek, e3⟩, q⟩ => by
  cases e3
  obtain ⟨⟨k0, k1, k2⟩, q⟩ := q
  refine ⟨p, t.a.l, t.r.a, by rw [e1, e2, ep, show v2 = V.int t.r.a from ek], hs.sq, k0, k1, k2, fun b o H1 s n bo => ?_⟩
  have s1 := same_st d s
  exact q _ (A.addB b) _ (s1.trans (St.newB s1.d n bo)) ⟨b, rfl, .inr rfl, o, upd_same, bo⟩
theorem bag_asg {te : TE} {i : Nat} {U : TS} {D : Ends} {σ : L2.St} {H : Hp} {R : V → Hp → Prop} (k : ∀ Q : VK, (∀ v H', R v H' → Q v H') → te σ H Q) (h : ∀ v H', R v H' → U D (σ.set i (some v)) H') : tSeq (tAsg te (gName i)) U D σ H := k _ h
theorem bag_ret {te : TE} {tr : TA} {D : Ends} {σ : L2.St} {H : Hp} {R : V → Hp → Prop} (k : ∀ Q : VK, (∀ v H', R v H' → Q v H') → te σ H Q) (h : ∀ v H', R v H' → tr σ H' fun xs H2 => (v :: xs).length ≤ sizeLine ∧ ∀ p, H2 p = none → D.rt (.ref p) (upd H2 p (.lst (v :: xs)))) :
    tRet (tLst (tCons te tr)) D σ H := k _ h
theorem bag_at {ns : List Int} {i : Nat} {x : V} (h : (ns.map V.int)[i]? = some x) : ∃ z, x = .int z ∧ ns[i]? = some z := by
  rw [List.getElem?_map, Option.map_eq_some_iff] at h
  obtain ⟨z, e, ez⟩ := h
  exact ⟨z, ez.symm, e⟩
theorem bag_cut (ns : List Int) (hi : Option Int) : ∃ ms : List Int, cutV (ns.map V.int) none hi = ms.map V.int ∧ ms.length ≤ ns.length := by
  refine ⟨(ns.drop (HT.sIx (ns.map V.int).length 0 none)).take (HT.sIx (ns.map V.int).length (ns.map V.int).length hi - HT.sIx (ns.map V.int).length 0 none), by unfold cutV; rw [List.map_take, List.map_drop], ?_⟩
  rw [List.length_take, List.length_drop]
  omega
section
variable {X : Cx} {K : PySem.W.Frag}
theorem cr_allK (h : X.K = K) (hc : X.calm = true) : CallR X (.builtin "all") (rAll K) := by subst h; exact cr_all hc
end
end TW
set_option Elab.async false
set_option maxRecDepth 100000
set_option maxHeartbeats 4000000
set_option linter.all false
set_option autoImplicit false
/-! TW15: list(o) by the class's own iter and len -/
namespace TW
open Pa (rep)
open PaL (repL)
open PySem PySem.Spec PyProof.Rows L2 My
section
variable {X : Cx} {pins : List (Addr × PySem.Obj)} {σ : L2.St}
end
section
variable {Γ : Cxt} {te : TE} {δ : List Sl} {α β : Type}
end
section
variable {Γ : Cxt} {ta tb te to : TE} {δ : List Sl} {α β γ L : Type} {ΔL : L → List Sl}
theorem st_parMM [Py α] [Py γ] [Pa β] {i j : Nat} {m : W (List α)} {n : W (List γ)} (h : EvF Γ ta δ m) (k : EvF Γ tb δ n) (hi : i < δ.length := by first | decide | simp) (hj : j < δ.length := by first | decide | simp) :
    StT (β := β) (L := L) Γ (tPar i j (tCons ta (tCons tb tNil))) δ ((m >>= fun a => n >>= fun b => pure (T2.mk a b)) >>= fun a => pure (.nx a)) (fun t => (δ.set i (.mu α t.a)).set j (.mu γ t.b)) ΔL := fun σ A H D I q => by
  refine h σ A H _ I (m.mono (fun a q p vs A1 H1 np mp bp s1 hp k1 => ?_) (fun _ h => h) q)
  refine k σ A1 H1 _ (I.step s1) (n.mono (fun b q p2 vs2 A2 H2 np2 mp2 bp2 s2 hp2 k2 => ?_) (fun _ h => h) q)
  exact ⟨.ref p, .ref p2, rfl, q _ A2 H2 (I.stepMv (s1.trans s2)) ((I.putM np mp bp s1 hp k1 hi).putM np2 mp2 bp2 s2 hp2 k2 (by rw [List.length_set]; exact hj))⟩
/-! ### xs.index(x) -/
end
section
variable {Γ : Cxt} {ta tb : TE} {δ : List Sl} {α β γ L : Type} {ΔL : L → List Sl}
theorem st_asgM [Py α] [Py γ] [Pa β] {i j : Nat} {m : W (List α)} {n : W γ} (h : EvF Γ ta δ m) (k : EvT Γ tb δ n) (hi : i < δ.length := by first | decide | simp) (hj : j < δ.length := by first | decide | simp) :
    StT (β := β) (L := L) Γ (tAsg (tTup (tCons ta (tCons tb tNil))) (gTup Γ.G.K 2 (gCons (gName i) (gCons (gName j) gNil)))) δ ((m >>= fun a => n >>= fun b => pure (T2.mk a b)) >>= fun a => pure (.nx a)) (fun t => (δ.set i (.mu α t.a)).set j (.fx γ t.b)) ΔL := fun σ A H D I q => by
  refine h σ A H _ I (m.mono (fun a q p vs A1 H1 np mp bp s1 hp k1 => ?_) (fun _ h => h) q)
  refine k σ A1 H1 _ (I.step s1) (n.mono (fun b q y A2 H2 s2 r2 => ?_) (fun _ h => h) q)
  refine ⟨by show 2 ≤ sizeLine; decide, fun t nt => ?_⟩
  have s3 : St A2 H2 A2 (upd H2 t (.tup [.ref p, y])) := St.new s2.d nt
  have s23 := s2.trans s3
  have b2 : ¬ A2.B p := fun z => (s2.nb p z).elim bp fun y => by rw [hp] at y; cases y
  refine ⟨t, [.ref p, y], rfl, SqT.of upd_same, rfl, .ref p, [y], rfl, y, [], rfl, rfl, ?_⟩
  exact q _ A2 _ (I.stepMv (s1.trans s23)) ((I.putM np (s2.ms p mp) b2 (s1.trans s23) (s23.k p _ bp hp) (k1.imp fun _ _ r => Pa.st r s1.d s23) hi).fx (Pa.st r2 s2.d s3) (by rw [List.length_set]; exact hj))
end
end TW
set_option Elab.async false
set_option maxRecDepth 100000
set_option maxHeartbeats 4000000
set_option linter.all false
set_option autoImplicit false
/-! TW16: the end of a law -/
namespace TW
open Pa (rep)
open PaL (repL)
open PySem PySem.Spec PyProof.Rows L2 My
def sp_law (K : PySem.W.Frag) : Sp := fun vs H Q _ => ∃ (a : Addr) (ns : List Int), vs = [.ref a] ∧ SqL K H a (ns.map V.int) ∧ ns.length ≤ 63 ∧ ∀ H', Q (.bl true) H'
theorem law_fn {P : Program} {w : World} {K : PySem.W.Frag} {mg : Str → Option Value} {base : Heap} {cls : Nat → Addr} {k : Nat} {f : Addr} {fd : FuncData} {ps : List Str} {m : Scr → W Bool} (F : FnOk P w K mg base (L2.CX P w) k f fd ps (SpF ⟨K, cls⟩ (fun t : Cn Scr Nl => m t.a)))
    (h : ∀ ns : List Int, ns.length ≤ 63 → (m ⟨ns⟩).run (fun b => b = true) fun _ => False) : FnOk P w K mg base CX0 k f fd ps (sp_law K) := by
  refine fn_cx0 F fun vs H Q E ⟨a, ns, e, hS, hl, q⟩ => ?_
  subst e
  refine ⟨⟨fun _ => False, fun _ => False⟩, ⟨⟨ns⟩, ⟨⟩⟩, ⟨fun _ z => z.elim, fun _ z => z.elim, fun _ z => z⟩, ⟨_, [], rfl, ⟨a, rfl, ?_⟩, rfl⟩, (m ⟨ns⟩).mono (fun b e v A' H' _ r => ?_) (fun _ z => z.elim) (h ns hl)⟩
  · exact hS.imp (fun h => ⟨fun z => z, h⟩) (fun h => .inr h)
  · rw [show v = V.bl b from r, e]
    exact q H'
theorem fun_of {K : PySem.W.Frag} {x qual : Str} {st : Stmt} {f : Addr} {oc : Value} {od an : Option Addr} {osl : Array (Option Value)} {kV doc pm cdv ct : Value}
    (l : K.lookup f = some ⟨oc, od, .func (PySem.W.fnOf x qual (defArgs st) (defBody st) (defScope st) .none kV doc pm an cdv ct), osl⟩) (c : PySem.W.codeIn K cdv qual = true) (k : PySem.W.keepIn K (.ref f) = true) :
    Fun K x qual st f (PySem.W.fnOf x qual (defArgs st) (defBody st) (defScope st) .none kV doc pm an cdv ct) := ⟨⟨oc, od, kV, doc, pm, an, cdv, ct, osl, rfl, l, c⟩, k⟩
end TW
set_option Elab.async false
set_option maxRecDepth 100000
set_option maxHeartbeats 4000000
set_option linter.all false
set_option autoImplicit false
/-! TW17: running programs of values -/
namespace TW
open Pa (rep)
open PaL (repL)
open PySem
section
variable {α β γ S L : Type}
/-- a program that gives a value, whatever is wished -/
def Gv (m : W α) (a : α) : Prop := ∀ (P : α → Prop) (E : Exn → Prop), P a → m.run P E
theorem Gv.ret {a : α} : Gv (pure a) a := fun _ _ h => h
theorem Gv.bind {m : W α} {f : α → W β} {a : α} {b : β} (h : Gv m a) (k : Gv (f a) b) : Gv (m >>= f) b := fun P E q => h _ _ (k P E q)
theorem Gv.need {p : Prop} (h : p) : Gv (W.need p) () := fun _ _ q => ⟨h, q⟩
theorem Gv.need' {p : Prop} {f : Unit → W β} {b : β} (h : p) (k : Gv (f ()) b) : Gv (W.need p >>= f) b := (Gv.need h).bind k
theorem Gv.get {o : Option α} {a : α} (h : o = some a) : Gv (W.get o) a := fun _ _ q => ⟨a, h, q⟩
theorem Gv.quiet {m : W α} {a : α} (h : Gv m a) : Gv m.q a := fun P E q => h _ _ q
theorem Gv.cast {m : W α} {a b : α} (h : Gv m a) (e : a = b) : Gv m b := e ▸ h
theorem Gv.seq {m : W (Res S β L)} {f : S → W (Res γ β L)} {s : S} {r : Res γ β L} (h : Gv m (.nx s)) (k : Gv (f s) r) : Gv (seqW m f) r := h.bind k
theorem Gv.fR {m : W (Res S β L)} {b : β} (h : Gv m (.rt b)) : Gv (finR m) b := h.bind Gv.ret
theorem Gv.fO {m : W (Res S (Option β) L)} {b : Option β} (h : Gv m (.rt b)) : Gv (finO m) b := h.bind Gv.ret
theorem Gv.fI {m : W (Res α Unit Empty)} {a : α} (h : Gv m (.nx a)) : Gv (finI m) a := h.bind Gv.ret
theorem Gv.ifT {c : W Bool} {m n : W α} {a : α} (h : Gv c true) (k : Gv m a) : Gv (ifW c m n) a := h.bind k
theorem Gv.ifF {c : W Bool} {m n : W α} {a : α} (h : Gv c false) (k : Gv n a) : Gv (ifW c m n) a := h.bind k
theorem Gv.ite {c : W Bool} {m n : W α} {b : Bool} {a : α} (h : Gv c b) (k : b = true → Gv m a) (l : b = false → Gv n a) : Gv (ifW c m n) a := by
  cases b with
  | true => exact h.ifT (k rfl)
  | false => exact h.ifF (l rfl)
theorem Gv.comp {t : α → W Bool} {e : α → W β} {tb : α → Bool} {eb : α → β} : ∀ {xs : List α}, (∀ x ∈ xs, Gv (t x) (tb x)) → (∀ x ∈ xs, tb x = true → Gv (e x) (eb x)) → Gv (compW t e xs) ((xs.filter tb).map eb)
  | [], _, _ => Gv.ret
  | x :: xs, ht, he => by
    have ih := Gv.comp (t := t) (e := e) (tb := tb) (eb := eb) (xs := xs) (fun y hy => ht y (List.mem_cons_of_mem _ hy)) fun y hy => he y (List.mem_cons_of_mem _ hy)
    refine (ht x List.mem_cons_self).quiet.bind ?_
    cases hb : tb x with
    | true =>
      rw [if_pos rfl, List.filter_cons_of_pos hb]
      exact (he x List.mem_cons_self hb).quiet.bind (ih.bind Gv.ret)
    | false =>
      rw [if_neg Bool.false_ne_true, List.filter_cons_of_neg (by rw [hb]; exact Bool.false_ne_true)]
      exact ih
theorem Gv.all {e : α → W β} {eb : α → β} {xs : List α} (he : ∀ x ∈ xs, Gv (e x) (eb x)) : Gv (compW (fun _ => (pure true : W Bool)) e xs) (xs.map eb) := by
  have h := Gv.comp (t := fun _ => (pure true : W Bool)) (tb := fun _ => true) (fun x _ => Gv.ret) fun x hx _ => he x hx
  rwa [List.filter_eq_self.mpr fun _ _ => rfl] at h
/-- a loop that goes through to its end -/
theorem Gv.for {f : α → S → W (Res S β S)} {g : S → α → S} : ∀ {xs : List α} {s : S}, (∀ x s, x ∈ xs → Gv (f x s) (.nx (g s x))) → Gv (forW (L := L) f xs s) (.nx (xs.foldl g s))
  | [], _, _ => Gv.ret
  | x :: xs, s, h => (h x s List.mem_cons_self).bind (Gv.for (xs := xs) fun y s hy => h y s (List.mem_cons_of_mem _ hy))
/-- what a loop keeps true -/
theorem run_for {f : α → S → W (Res S β S)} {P : Res S β L → Prop} {E : Exn → Prop} (I : Nat → S → Prop) : ∀ (xs : List α) (i : Nat) (s : S), I i s → (∀ j x s, xs[j]? = some x → I (i + j) s → (f x s).run (fun r => match r with
    | .nx s' => I (i + j + 1) s' | .ct s' => I (i + j + 1) s' | .bk s' => P (.nx s') | .rt b => P (.rt b)) E) → (∀ s, I (i + xs.length) s → P (.nx s)) → (forW (L := L) f xs s).run P E
  | [], i, s, h0, _, hd => hd s h0
  | x :: xs, i, s, h0, hs, hd => by
    refine (f x s).mono (fun r q => ?_) (fun _ h => h) (hs 0 x s rfl h0)
    have next : ∀ s', I (i + 1) s' → (forW (L := L) f xs s').run P E := fun s' h => run_for I xs (i + 1) s' h (fun j y s hy hi => by
      have := hs (j + 1) y s (by simpa using hy) (by rwa [show i + (j + 1) = i + 1 + j by omega])
      rwa [show i + (j + 1) + 1 = i + 1 + j + 1 by omega] at this) fun s hi => hd s (by rw [List.length_cons]; rwa [show i + (xs.length + 1) = i + 1 + xs.length by omega])
    cases r with
    | nx s' => exact next s' q
    | ct s' => exact next s' q
    | bk s' => exact q
    | rt b => exact q
end
end TW
namespace TW
open Pa (rep)
open PaL (repL)
open PySem
section
variable {α β γ S L : Type}
theorem pb (a : α) (f : α → W β) : ((pure a : W α) >>= f) = f a := rfl
theorem ba (m : W α) (f : α → W β) (g : β → W γ) : ((m >>= f) >>= g) = (m >>= fun a => f a >>= g) := rfl
theorem sq_nx (s : S) (f : S → W (Res γ β L)) : seqW (pure (.nx s)) f = f s := rfl
theorem sq_rt (b : β) (f : S → W (Res γ β L)) : seqW (pure (.rt b) : W (Res S β L)) f = pure (.rt b) := rfl
theorem sq_b (m : W α) (g : α → W (Res S β L)) (f : S → W (Res γ β L)) : seqW (m >>= g) f = m >>= fun a => seqW (g a) f := rfl
theorem sq_i (c : Prop) [Decidable c] (m n : W (Res S β L)) (f : S → W (Res γ β L)) : seqW (if c then m else n) f = if c then seqW m f else seqW n f := by split <;> rfl
theorem sq_f (f : S → W (Res γ β L)) : seqW (W.fail : W (Res S β L)) f = W.fail := rfl
theorem fR_rt (b : β) : finR (pure (.rt b) : W (Res S β L)) = pure b := rfl
theorem fR_b (m : W α) (g : α → W (Res S β L)) : finR (m >>= g) = m >>= fun a => finR (g a) := rfl
theorem fR_i (c : Prop) [Decidable c] (m n : W (Res S β L)) : finR (if c then m else n) = if c then finR m else finR n := by split <;> rfl
theorem fR_f : finR (W.fail : W (Res S β L)) = W.fail := rfl
theorem fN_nx (s : S) : finN (pure (.nx s) : W (Res S Unit L)) = pure () := rfl
theorem fN_b (m : W α) (g : α → W (Res S Unit L)) : finN (m >>= g) = m >>= fun a => finN (g a) := rfl
theorem fN_i (c : Prop) [Decidable c] (m n : W (Res S Unit L)) : finN (if c then m else n) = if c then finN m else finN n := by split <;> rfl
theorem fN_f : finN (W.fail : W (Res S Unit L)) = W.fail := rfl
theorem fI_nx (a : α) : finI (pure (.nx a) : W (Res α Unit Empty)) = pure a := rfl
theorem fI_b {δ : Type} (m : W δ) (g : δ → W (Res α Unit Empty)) : finI (m >>= g) = m >>= fun a => finI (g a) := rfl
theorem fI_i (c : Prop) [Decidable c] (m n : W (Res α Unit Empty)) : finI (if c then m else n) = if c then finI m else finI n := by split <;> rfl
theorem fI_f : finI (W.fail : W (Res α Unit Empty)) = W.fail := rfl
theorem i_b (c : Prop) [Decidable c] (m n : W α) (f : α → W β) : ((if c then m else n) >>= f) = if c then m >>= f else n >>= f := by split <;> rfl
theorem f_b (f : α → W β) : ((W.fail : W α) >>= f) = W.fail := rfl
end
end TW
set_option Elab.async false
set_option maxRecDepth 100000
set_option maxHeartbeats 4000000
set_option linter.all false
set_option autoImplicit false
/-! TW18: values of any kind; what a try catches -/
namespace TW
open Pa (rep)
open PaL (repL)
open PySem PySem.Spec PyProof.Rows L2 My
/-! ### values of any kind -/
def D.ty (cls : Nat → Addr) : D → Value
  | .non => .type "NoneType"
  | .bl _ => .type "bool"
  | .int _ => .type "int"
  | .str _ => .type "str"
  | .lst _ => .type "list"
  | .tup _ => .type "tuple"
  | .ob n => .ref (cls n)
section
variable {Γ : Cxt} {te ta tb : TE} {δ : List Sl} {α β γ : Type}
end
/-! ### isinstance of a caught error -/
/-- a caught error, as the value of a slot -/
structure ExT (cls : Value) (d : Option Addr) (a : Addr) where
  e : Exn
theorem ExR.mv {G : Gx} {A A' : Av} {H H' : Hp} {e : Exn} {cls : Value} {d : Option Addr} (h : ExR G A H e cls d) (m : Mv A H A' H') : ExR G A' H' e cls d := by
  obtain ⟨c, fs⟩ := e
  obtain ⟨h1, h2⟩ := h
  refine ⟨h1, ?_⟩
  cases fs with
  | nil => exact h2
  | cons f fs =>
    obtain ⟨dx, vs, e, n, hh, k⟩ := h2
    exact ⟨dx, vs, e, fun z => (m.m dx z).elim n (fun y => by rw [hh] at y; cases y), m.k dx _ n hh, k.imp fun _ _ r => ⟨r.1, Py.mv r.2 m⟩⟩
instance {cls : Value} {d : Option Addr} {a : Addr} : Py (ExT cls d a) where
  rep := fun G A H v x => v = .ref a ∧ ExR G A H x.e cls d
  st := fun h dm s => ⟨h.1, h.2.mv (s.mv dm)⟩
  mv := fun h m => ⟨h.1, h.2.mv m⟩
section
variable {Γ : Cxt} {te ta tb : TE} {δ : List Sl} {α β γ : Type} {cls : Value} {d : Option Addr} {a : Addr} {e : Exn} {i : Nat}
theorem ExR.dict {G : Gx} {A : Av} {H : Hp} (h : ExR G A H e cls d) : d = none ∨ ∃ dd fs, d = some dd ∧ H dd = some (.xd fs) := by
  obtain ⟨c, fs⟩ := e
  obtain ⟨h1, h2⟩ := h
  cases fs with
  | nil => exact .inl h2
  | cons f fs =>
    obtain ⟨dx, vs, e, n, hh, k⟩ := h2
    exact .inr ⟨dx, vs, e, hh⟩
end
end TW
set_option Elab.async false
set_option maxRecDepth 100000
set_option maxHeartbeats 4000000
set_option linter.all false
set_option autoImplicit false
/-! TW19: try .. except -/
namespace TW
open Pa (rep)
open PaL (repL)
open PySem PySem.Spec PyProof.Rows L2 My
def toR {S β L : Type} : Res S β Empty → Res S β L
  | .nx s => .nx s
  | .rt b => .rt b
  | .bk l => l.elim
  | .ct l => l.elim
/-- a statement at these slots -/
def StA {S β L : Type} [Pa β] (Γ : Cxt) (σ0 : L2.St) (ts : TS) (δ : List Sl) (m : W (Res S β L)) (Δ : S → List Sl) (ΔL : L → List Sl) : Prop :=
  ∀ A H D, Iv Γ A H σ0 δ → m.run (Wish Γ A H D Δ ΔL) Γ.Er → ts D σ0 H
def Sl.isBo : Sl → Bool
  | @Sl.bo _ _ _ => true
  | _ => false
section
variable {X : Cx} {x n : Str} {c : Value} {i : Nat} {body suite : List Stmt} {b₀ : Stmt} {np pos pos' : Pos} {tb : WX → TS} {ts : Addr → Value → Option Addr → TS} {Wout : WX}
end
section
variable {Γ : Cxt} {A A' : Av} {H H' : Hp} {σ σ' : L2.St} {δ δ' : List Sl} {S S1 β L α : Type} [Pa β] {Δ : S → List Sl} {ΔL : L → List Sl} {D : Ends} {E' : XK} {Er' : Exn → Prop} {i : Nat}
theorem StT.a {ts : TS} {m : W (Res S β L)} (h : StT Γ ts δ m Δ ΔL) : StA Γ σ ts δ m Δ ΔL := fun A H D I q => h σ A H D I q
theorem Iv.fresh (I : Iv Γ A H σ δ) (no : (δ.all fun s => !s.own) = true) (er : ∀ e cls d A' H', Er' e → TW.St A H A' H' → ExR Γ.G A' H' e cls d → E' cls d H') : Iv ⟨Γ.G, A, H, E', Er'⟩ A H σ δ := by
  have no : ∀ (j : Nat) (s : Sl), δ[j]? = some s → s.own = false := fun j s e => by
    have := List.all_eq_true.mp no s (List.mem_of_getElem? e)
    simpa using this
  refine ⟨I.len, fun j s e => ?_, fun j k s t p hjk ej ek os ot pj pk => (by rw [no j s ej] at os; cases os), I.dom, St.refl I.dom, er⟩
  obtain ⟨o, e1, r⟩ := I.at_ j s e
  refine ⟨o, e1, ?_⟩
  have n := no j s e
  cases s with
  | un => trivial
  | @fx α _ a => exact r
  | @bo α _ xs =>
    obtain ⟨v, p, vs, e2, e3, ⟨n1, r1⟩, k⟩ := r
    exact ⟨v, p, vs, e2, e3, ⟨fun b => (I.st.nb p b).elim n1 (fun z => by rw [r1] at z; cases z), I.st.k p _ n1 r1⟩, k⟩
  | @mu α _ xs => cases n
  | @mp α _ q xs => cases n
  | ob C q fs => cases n
theorem Iv.back (I : Iv Γ A H σ δ) (I1 : Iv ⟨Γ.G, A, H, E', Er'⟩ A' H' σ' δ') (nb : (δ'.all fun s => !s.isBo) = true) : Iv Γ A' H' σ' δ' := by
  refine ⟨I1.len, fun j s e => ?_, I1.sep, I.d0, I.st.trans I1.st, I.er⟩
  obtain ⟨o, e1, r⟩ := I1.at_ j s e
  refine ⟨o, e1, ?_⟩
  have n := List.all_eq_true.mp nb s (List.mem_of_getElem? e)
  cases s with
  | un => trivial
  | @fx α _ a => exact r
  | @bo α _ xs => cases n
  | @mu α _ xs =>
    obtain ⟨p, ho, e2, m, b, n0, hh, k⟩ := r
    exact ⟨p, ho, e2, m, b, I.st.none n0, hh, k⟩
  | @mp α _ q xs =>
    obtain ⟨p, ho, e2, m, b, n0, hh, k⟩ := r
    exact ⟨p, ho, e2, m, b, I.st.none n0, hh, k⟩
  | ob C q fs =>
    obtain ⟨p, ho, e2, m, b, n0, hh, k⟩ := r
    exact ⟨p, ho, e2, m, b, I.st.none n0, hh, k⟩
theorem Iv.clear (I : Iv Γ A H σ δ) (h : δ[i]? = some .un) : Iv Γ A H (σ.set i none) δ := by
  have hi : i < δ.length := (List.getElem?_eq_some_iff.mp h).1
  refine ⟨by rw [List.length_set]; exact I.len, fun j s e => ?_, fun j k s t p hjk ej ek os ot pj pk => ?_, I.d0, I.st, I.er⟩
  · by_cases hj : i = j
    · subst hj
      rw [h] at e
      cases e
      exact ⟨none, by rw [List.getElem?_set_self (by rw [I.len]; exact hi)], trivial⟩
    · rw [List.getElem?_set_ne hj]
      exact I.at_ j s e
  · have ne : ∀ (j : Nat) (s : Sl), δ[j]? = some s → s.own = true → i ≠ j := fun j s e o z => by
      subst z
      rw [h] at e
      cases e
      cases o
    rw [List.getElem?_set_ne (ne j s ej os)] at pj
    rw [List.getElem?_set_ne (ne k t ek ot)] at pk
    exact I.sep j k s t p hjk ej ek os ot pj pk
theorem Iv.unq (I : Iv Γ A H σ δ) (I1 : Iv Γ.q A' H' σ' δ') : Iv Γ A' H' σ' δ' := ⟨I1.len, I1.at_, I1.sep, I1.d0, I1.st, I.er⟩
/-- what the body of a try does, anchored where it begins -/
theorem Wish.fresh (I : Iv Γ A H σ δ) (nb : ∀ s, ((Δ s).all fun s => !s.isBo) = true) {r : Res S β Empty} (w : Wish Γ A H D Δ ΔL (toR r)) : Wish ⟨Γ.G, A, H, E', Er'⟩ A H D Δ (fun e : Empty => e.elim) r := by
  cases r with
  | nx s => exact fun σ1 A1 H1 mv I1 => w σ1 A1 H1 mv (I.back I1 (nb s))
  | rt b => exact fun v A1 H1 st r => w v A1 H1 (I.st.trans st) r
  | bk l => exact l.elim
  | ct l => exact l.elim
/-- the clause's wish at its slots -/
def As (i : Nat) (D : Ends) : Ends := { nx := fun σ' H' => D.nx (σ'.set i none) H', rt := D.rt, bk := fun σ' H' => D.bk (σ'.set i none) H', ct := fun σ' H' => D.ct (σ'.set i none) H' }
theorem Wish.as (I : Iv Γ A H σ δ) (ui : ∀ s, (Δ s)[i]? = some .un) (ul : ∀ l, (ΔL l)[i]? = some .un) {r : Res S β L} (m : Mv A H A' H') (w : Wish Γ A H D Δ ΔL r) : Wish Γ.q A' H' (As i D) Δ ΔL r := by
  cases r with
  | nx s => exact fun σ1 A1 H1 mv I1 => w _ A1 H1 (m.trans mv) ((I.unq I1).clear (ui s))
  | rt b => exact w
  | bk l => exact fun σ1 A1 H1 mv I1 => w _ A1 H1 (m.trans mv) ((I.unq I1).clear (ul l))
  | ct l => exact fun σ1 A1 H1 mv I1 => w _ A1 H1 (m.trans mv) ((I.unq I1).clear (ul l))
theorem Wish.unq (I : Iv Γ A H σ δ) {r : Res S β L} (m : Mv A H A' H') (w : Wish Γ A H D Δ ΔL r) : Wish Γ.q A' H' D Δ ΔL r := by
  cases r with
  | nx s => exact fun σ1 A1 H1 mv I1 => w _ A1 H1 (m.trans mv) (I.unq I1)
  | rt b => exact w
  | bk l => exact fun σ1 A1 H1 mv I1 => w _ A1 H1 (m.trans mv) (I.unq I1)
  | ct l => exact fun σ1 A1 H1 mv I1 => w _ A1 H1 (m.trans mv) (I.unq I1)
end
end TW
set_option Elab.async false
set_option maxRecDepth 100000
set_option maxHeartbeats 4000000
set_option linter.all false
set_option autoImplicit false
/-! TW20: static methods; calls in a try's body -/
namespace TW
open Pa (rep)
open PaL (repL)
open PySem PySem.Spec PyProof.Rows L2 My
/-- a static method of a class -/
structure SMet (K : PySem.W.Frag) (C : Addr) (m : Str) (p g : Addr) : Prop where
  at_ : PySem.W.findCls K (.ref C) (.type "type") m = some (.get (.builtin "staticmethod.__get__") (.ref p) .none (.ref C))
  rc : ∃ rest, PySem.W.recIn K p "staticmethod" = some (.ref g :: rest)
  kp : PySem.W.keepIn K (.ref g) = true
section
variable {X : Cx} {CX : CXT} {k : Nat} {C p g : Addr} {fd : FuncData} {ps : List Str} {sp : Sp} {E : XK} {ES : L2.St → XK} {o i e : Expr} {es : List Expr} {m : Str} {pos apos : Pos} {to ti ta tb : TE} {t : TA} {pl : Sem Bool}
end
section
variable {Γ : Cxt} {te to ti ta : TE} {tl : TA} {δ : List Sl} {α β γ τ : Type}
end
/-- an own error without fields -/
structure ErrP (K : PySem.W.Frag) (mg : Str → Option Value) (x : Str) (C fI : Addr) (fd : FuncData) : Prop where
  g : mg x = some (.ref C)
  oex : OexC K C
  iC : PySem.W.findIn K (.ref C) "__init__" = some (some (.ref fI))
  tI : PySem.W.typeIn K (.ref fI) = some (.type "function")
  b : Binds K fd ["self"] []
end TW
set_option Elab.async false
set_option maxRecDepth 100000
set_option maxHeartbeats 4000000
set_option linter.all false
set_option autoImplicit false
/-! TW21: values of one of several types; .insert, [::-1], .index of a tuple -/
namespace TW
open Pa (rep)
open PaL (repL)
open PySem PySem.Spec PyProof.Rows L2 My
/-! ### one of three types -/
inductive Sm3 (α β γ : Type) where
  | a (x : α) | b (x : β) | c (x : γ)
instance {α β γ : Type} [Py α] [Py β] [Py γ] : Py (Sm3 α β γ) where
  rep := fun G A H v s => match s with | .a x => rep G A H v x | .b x => rep G A H v x | .c x => rep G A H v x
  st := fun {G A H A' H' v s} h d t => match s, h with | .a _, h => Pa.st h d t | .b _, h => Pa.st h d t | .c _, h => Pa.st h d t
  mv := fun {G A H A' H' v s} h t => match s, h with | .a _, h => Py.mv h t | .b _, h => Py.mv h t | .c _, h => Py.mv h t
section
variable {Γ : Cxt} {te ta tb : TE} {tl : TA} {δ : List Sl} {α β γ τ : Type}
end
section
variable {P : Program} {w : World} {K : PySem.W.Frag} {mg : Str → Option Value} {base : Heap} {CX : CXT} {k : Nat} {f : Addr} {fd : FuncData} {ps : List Str}
end
/-! ### lists -/
section
variable {Γ : Cxt} {te ti ta tb : TE} {tl : TA} {δ : List Sl} {S α β γ τ L : Type} {Δ : S → List Sl} {ΔL : L → List Sl}
end
/-! ### (1, 2, ..).index(x), whole numbers -/
section
variable {Γ : Cxt} {te to ta tb : TE} {tl : TA} {δ : List Sl} {α : Type}
end
end TW
set_option Elab.async false
set_option maxRecDepth 100000
set_option maxHeartbeats 4000000
set_option linter.all false
set_option autoImplicit false
/-! TW22: small things for the printed texts, second part -/
namespace TW
open Pa (rep)
open PaL (repL)
open PySem PySem.Spec PyProof.Rows L2 My
inductive AllP (P : Nat → Prop) : List Nat → Prop
  | nil : AllP P []
  | cons {n : Nat} {l : List Nat} : P n → AllP P l → AllP P (n :: l)
section
variable {Γ : Cxt} {te ta tb : TE} {tl : TA} {δ δc : List Sl} {α β γ τ L : Type} {ΔL : L → List Sl}
end
end TW
set_option Elab.async false
set_option maxRecDepth 100000
set_option maxHeartbeats 4000000
set_option linter.all false
set_option autoImplicit false
/-! TW23: defs that give a new list -/
namespace TW
open Pa (rep)
open PaL (repL)
open PySem PySem.Spec PyProof.Rows L2 My
/-- what is given is a new list, the caller's own -/
def SpFr {τ β : Type} [PaL τ] [Py β] (G : Gx) (m : τ → W (List β)) : Sp := fun vs H Q E => ∃ A t, Dom A H ∧ repL G A H vs t ∧
  (m t).run (fun xs => ∀ p ws A' H', H p = none → A'.M p → ¬ A'.B p → St A H A' H' → H' p = some (.lst ws) → All2 (rep G A' H') ws xs → Q (.ref p) H') (fun e => ∀ cls d A' H', St A H A' H' → ExR G A' H' e cls d → E cls d H')
theorem def_okF {P : Program} {w : World} {K : PySem.W.Frag} {mg : Str → Option Value} {base : Heap} {cls : Nat → Addr} {x qual : Str} {st : Stmt} {f : Addr} {fd : FuncData} {N ps : List Str} {k : Nat} {τ β : Type} [PaL τ] [ArL τ] [Py β] (m : τ → W (List β)) (F : Fun K x qual st f fd) (S : FnScope N ps (defScope st))
    (hn : PaL.n τ = ps.length) (hn2 : PaL.n τ ≤ N.length)
    (body : ∀ (cdv : Value) (A : Around) (outer : List Env) (s : Shared) (H : Hp) (E : XK) (A0 : Av) (Er : Exn → Prop) (t : τ), Room k (A.deeper (envOfC qual (defScope st) s.heap.objs.size f cdv)) →
      ∃ te, PSs (cxOf (L2.CX P w) P w K mg base N qual (defScope st) f cdv A outer s H E) (defBody st) (tRet te) ∧ EvF ⟨⟨K, cls⟩, A0, H, E, Er⟩ te (ArL.sls t ++ List.replicate (N.length - PaL.n τ) .un) (m t)) :
    FnOk P w K mg base (L2.CX P w) (k + 1) f fd ps (SpFr ⟨K, cls⟩ m) := by
  refine F.okX S (fun vs H Q E h => ?_) (fun cdv A outer s H vs Q E hr h => ?_)
  · obtain ⟨A, t, d, r, q⟩ := h
    rw [PaL.lenL r, hn]
  · obtain ⟨A0, t, d, r, q⟩ := h
    obtain ⟨te, hp, hb⟩ := body cdv A outer s H E A0 (fun e => ∀ cl d A' H', TW.St A0 H A' H' → ExR ⟨K, cls⟩ A' H' e cl d → E cl d H') t hr
    exact ⟨_, hp, hb _ A0 H Q (iv_start d r hn2 fun e cl d A' H' h s x => h cl d A' H' s x) q⟩
section
variable {Γ : Cxt} {te ta tb : TE} {tl : TA} {δ : List Sl} {β τ : Type}
theorem ef_call [PaL τ] [Py β] {f : τ → W (List β)} {m : W τ} (h : EvA Γ tl δ m) : EvF Γ (tCall (SpFr Γ.G f) [] Γ.E tl) δ (m >>= f) := fun σ A H Q I q => by
  refine h σ A H _ I (m.mono (fun t q vs A1 H1 s1 r1 => ?_) (fun _ h => h) q)
  rw [List.append_nil]
  exact ⟨A1, t, s1.d, r1, (f t).mono (fun xs q p ws A2 H2 n hm hb s2 hp k => q p ws A2 H2 (s1.none n) hm hb (s1.trans s2) hp k) (fun e he => I.erq s1 e he) q⟩
end
end TW
set_option Elab.async false
set_option maxRecDepth 100000
set_option maxHeartbeats 4000000
set_option linter.all false
set_option autoImplicit false
/-! TW24: own errors of two fields -/
namespace TW
open Pa (rep)
open PaL (repL)
open PySem PySem.Spec PyProof.Rows L2 My
structure ErrF2 (K : PySem.W.Frag) (mg : Str → Option Value) (x f1 f2 : Str) (C fI : Addr) (fd : FuncData) : Prop where
  g : mg x = some (.ref C)
  oex : OexC K C
  iC : PySem.W.findIn K (.ref C) "__init__" = some (some (.ref fI))
  tI : PySem.W.typeIn K (.ref fI) = some (.type "function")
  b : L2.Binds K fd ["self", f1, f2] []
section
variable {X : Cx} {x f g : Str} {p pos : Pos} {e e2 : Expr} {te te2 : TE}
end
section
variable {Γ : Cxt} {te ta : TE} {δ : List Sl} {S α β γ L : Type} {Δ : S → List Sl} {ΔL : L → List Sl}
end
end TW
set_option Elab.async false
set_option maxRecDepth 100000
set_option maxHeartbeats 4000000
set_option linter.all false
set_option autoImplicit false
/-! TW25: calls in a try's body, by values -/
namespace TW
open Pa (rep)
open PaL (repL)
open PySem PySem.Spec PyProof.Rows L2 My
section
variable {Γ : Cxt} {σ : L2.St} {te to ti ta tb : TE} {tl : TA} {δ δc : List Sl} {S α β γ τ L : Type} {Δ : S → List Sl} {ΔL : L → List Sl} {ES : L2.St → XK}
end
end TW
set_option Elab.async false
set_option maxRecDepth 100000
set_option maxHeartbeats 4000000
set_option linter.all false
set_option autoImplicit false
/-! TW26: programs of values that give something of a set; that raise -/
namespace TW
open Pa (rep)
open PaL (repL)
open PySem PySem.Spec PyProof.Rows L2 My
/-- a program that gives something of S -/
def Rn {α : Type} (m : W α) (S : α → Prop) : Prop := ∀ (P : α → Prop) (E : Exn → Prop), (∀ a, S a → P a) → m.run P E
/-- a program that raises e -/
def Th {α : Type} (m : W α) (e : Exn) : Prop := ∀ (P : α → Prop) (E : Exn → Prop), E e → m.run P E
section
variable {α β γ S L : Type}
theorem Gv.rn {m : W α} {a : α} {T : α → Prop} (h : Gv m a) (k : T a) : Rn m T := fun P E q => h P E (q a k)
theorem Rn.gv {m : W α} {a : α} (h : Rn m (· = a)) : Gv m a := fun P E q => h P E fun b e => e ▸ q
theorem Rn.ret {a : α} {T : α → Prop} (k : T a) : Rn (pure a) T := fun _ _ q => q a k
theorem Rn.bind {m : W α} {f : α → W β} {T : α → Prop} {U : β → Prop} (h : Rn m T) (k : ∀ a, T a → Rn (f a) U) : Rn (m >>= f) U := fun P E q => h _ _ fun a t => k a t P E q
theorem Gv.bindR {m : W α} {f : α → W β} {a : α} {U : β → Prop} (h : Gv m a) (k : Rn (f a) U) : Rn (m >>= f) U := fun P E q => h _ _ (k P E q)
theorem Rn.need {p : Prop} {f : Unit → W β} {U : β → Prop} (h : p) (k : Rn (f ()) U) : Rn (W.need p >>= f) U := (Gv.need h).bindR k
theorem Rn.mono {m : W α} {T U : α → Prop} (h : Rn m T) (k : ∀ a, T a → U a) : Rn m U := fun P E q => h P E fun a t => q a (k a t)
theorem Rn.quiet {m : W α} {T : α → Prop} (h : Rn m T) : Rn m.q T := fun P E q => h P _ q
theorem Rn.ite {c : Prop} [Decidable c] {m n : W α} {T : α → Prop} (h : c → Rn m T) (k : ¬ c → Rn n T) : Rn (if c then m else n) T := by
  by_cases z : c
  · rw [if_pos z]; exact h z
  · rw [if_neg z]; exact k z
theorem Rn.seq {γ : Type} {m : W (Res S β L)} {f : S → W (Res γ β L)} {T : S → Prop} {U : Res γ β L → Prop} (h : Rn m fun r => ∃ s, r = .nx s ∧ T s) (k : ∀ s, T s → Rn (f s) U) : Rn (seqW m f) U := h.bind fun r ⟨s, e, t⟩ => by
  subst e
  exact k s t
theorem Rn.fR {m : W (Res S β L)} {T : β → Prop} (h : Rn m fun r => ∃ b, r = .rt b ∧ T b) : Rn (finR m) T := h.bind fun r ⟨b, e, t⟩ => by
  subst e
  exact Rn.ret t
theorem Rn.all {e : α → W β} {T : β → Prop} : ∀ {xs : List α}, (∀ x ∈ xs, Rn (e x) T) → Rn (compW (fun _ => (pure true : W Bool)) e xs) fun l => l.length = xs.length ∧ ∀ y ∈ l, T y
  | [], _ => Rn.ret ⟨rfl, nofun⟩
  | x :: xs, h => by
    show Rn ((e x).q >>= fun y => compW (fun _ => (pure true : W Bool)) e xs >>= fun r => pure (y :: r)) _
    exact (h x List.mem_cons_self).quiet.bind fun y hy => (Rn.all fun z hz => h z (List.mem_cons_of_mem _ hz)).bind fun r ⟨hl, hr⟩ => Rn.ret ⟨by simp [hl], fun z hz => (List.mem_cons.mp hz).elim (fun e => e ▸ hy) (hr z)⟩
theorem Rn.forL {f : α → S → W (Res S β S)} (I : Nat → S → Prop) {xs : List α} {s : S} (h0 : I 0 s) (hs : ∀ (j : Nat) (x : α) (s : S), xs[j]? = some x → I j s → Rn (f x s) fun r => ∃ s', r = .nx s' ∧ I (j + 1) s') : Rn (forW (L := L) f xs s) fun r => ∃ s', r = .nx s' ∧ I xs.length s' := fun P E q =>
  run_for I xs 0 s h0 (fun j x s hx hi => hs j x s hx (by rwa [Nat.zero_add] at hi) _ _ fun r ⟨s', e, i'⟩ => by
    subst e
    rwa [Nat.zero_add]) fun s' hi => q _ ⟨s', rfl, by rwa [Nat.zero_add] at hi⟩
theorem Th.thr {e : Exn} : Th (W.thr e : W α) e := fun _ _ q => q
theorem Th.bind {m : W α} {f : α → W β} {e : Exn} (h : Th m e) : Th (m >>= f) e := fun P E q => h _ _ q
theorem Gv.bindT {m : W α} {f : α → W β} {a : α} {e : Exn} (h : Gv m a) (k : Th (f a) e) : Th (m >>= f) e := fun P E q => h _ _ (k P E q)
theorem Th.need {p : Prop} {f : Unit → W β} {e : Exn} (h : p) (k : Th (f ()) e) : Th (W.need p >>= f) e := (Gv.need h).bindT k
theorem Th.fors {f : α → Unit → W (Res Unit β Unit)} {e : Exn} {x : α} {bs : List α} (h : Th (f x ()) e) : ∀ {as : List α}, (∀ a ∈ as, Gv (f a ()) (.nx ())) → Th (forW (L := L) f (as ++ x :: bs) ()) e
  | [], _ => h.bind
  | a :: as, k => (k a List.mem_cons_self).bindT (Th.fors h fun y hy => k y (List.mem_cons_of_mem _ hy))
end
theorem r_take (b : Bag) (k : Int) (h : 0 < k) (h2 : k < 2 ^ 8000) : Rn (w_take b k) fun r => 0 ≤ r ∧ r < k := fun P E q => ⟨⟨h, h2⟩, fun r hr => q r hr⟩
theorem big8000 {k : Int} (h : k < 2 ^ 200) : k < 2 ^ 8000 := by
  have e : (2 : Int) ^ 8000 = 2 ^ 200 * 2 ^ 7800 := by rw [← Int.pow_add]
  have p : (1 : Int) ≤ 2 ^ 7800 := Int.pow_pos (by decide)
  have q : (0 : Int) < 2 ^ 200 := Int.pow_pos (by decide)
  rw [e]
  refine Int.lt_of_lt_of_le h ?_
  have := Int.mul_le_mul_of_nonneg_left p (Int.le_of_lt q)
  rwa [Int.mul_one] at this
end TW
set_option Elab.async false
set_option maxRecDepth 100000
set_option maxHeartbeats 4000000
set_option linter.all false
set_option autoImplicit false
/-! TW27: while; name op= e; a list of maybe's that are all there -/
namespace TW
open Pa (rep)
open PaL (repL)
open PySem PySem.Spec PyProof.Rows L2 My
section
variable {Γ : Cxt} {A A' : Av} {H H' : Hp} {σ : L2.St} {δ δ' : List Sl} {S S1 β L α : Type} [Pa β] {Δ : S → List Sl} {ΔL : L → List Sl} {D : Ends} {ts t u tb : TS} {te : TE}
end
end TW
set_option Elab.async false
set_option maxRecDepth 100000
set_option maxHeartbeats 4000000
set_option linter.all false
set_option autoImplicit false
/-! TW28: tuple + tuple; defs that take what is left over as a tuple -/
namespace TW
open Pa (rep)
open PaL (repL)
open PySem PySem.Spec PyProof.Rows L2 My
section
variable {Γ : Cxt} {A A' : Av} {H H' : Hp} {σ : L2.St} {δ δ' : List Sl} {S L α β γ τ τ2 : Type} {te : TE} {tl : TA}
theorem ov_catT [Py α] : OpV Γ (rCatA Γ.G.K) (fun (a b : Tup α) => W.need (a.l.length + b.l.length ≤ sizeLine) >>= fun _ => (pure (Tup.mk (a.l ++ b.l)) : W (Tup α))) := fun x y A H Q a b d hx hy q => by
  obtain ⟨p, vs, rfl, h, k⟩ := hx
  obtain ⟨p2, vs2, rfl, h2, k2⟩ := hy
  obtain ⟨hz, q⟩ := q
  refine ⟨p, p2, vs, vs2, rfl, rfl, h.sq, h2.sq, by rw [k.len, k2.len]; exact hz, fun e => ?_, fun _ e => ?_, fun _ _ r n => ?_⟩
  · subst e
    have ea : a.l = [] := by
      have := k.len
      exact List.length_eq_zero_iff.mp this.symm
    exact q _ A H (St.refl d) ⟨p2, vs2, rfl, h2, by rw [ea]; exact k2⟩
  · subst e
    have eb : b.l = [] := List.length_eq_zero_iff.mp k2.len.symm
    exact q _ A H (St.refl d) ⟨p, vs, rfl, h, by rw [eb, List.append_nil]; exact k⟩
  · have s : TW.St A H A (upd H r (.tup (vs ++ vs2))) := St.new d n
    exact q _ A _ s ⟨r, _, rfl, .inl ⟨d.nm n, upd_same⟩, (k.app k2).imp fun _ _ z => Pa.st z d s⟩
/-! ### def f(a, .., *v) -/
/-- what is left over -/
class RestL (τ α : Type) [PaL τ] [Py α] where
  to : τ → List α
  ok : ∀ {G A H vs} {t : τ}, repL G A H vs t → All2 (rep G A H) vs (to t)
instance [Py α] : RestL Nl α := ⟨fun _ => [], fun {G A H vs t} h => by rw [show vs = [] from h]; exact .nil⟩
instance [Py α] [PaL τ] [RestL τ α] : RestL (Cn α τ) α := ⟨fun t => t.a :: RestL.to t.r, fun {G A H vs t} ⟨v, r, e, h, k⟩ => by rw [e]; exact .cons h (RestL.ok k)⟩
/-- arguments as given, and as they are bound -/
structure Stc (τ α τ2 : Type) [PaL τ] [Py α] [PaL τ2] where
  n : Nat
  cv : τ → τ2
  ok : ∀ {G A H vs} {t : τ}, repL G A H vs t → ∃ (ws rest : List V), vs = ws ++ rest ∧ ws.length = n ∧ rest.length + n = PaL.n τ ∧ ∀ (A' : Av) (H' : Hp) (p : Addr), Dom A H → TW.St A H A' H' → ¬ A'.M p → H' p = some (.tup rest) → repL G A' H' (ws ++ [V.ref p]) (cv t)
end
end TW
set_option Elab.async false
set_option maxRecDepth 100000
set_option maxHeartbeats 4000000
set_option linter.all false
set_option autoImplicit false
/-! TW29: defs that change the lists they are given -/
namespace TW
open Pa (rep)
open PaL (repL)
open PySem PySem.Spec PyProof.Rows L2 My
/-- what does not lean on the heap -/
class Flt (α : Type) [Py α] : Prop where
  any : ∀ {G A H A' H' v} {a : α}, rep G A H v a → rep G A' H' v a
instance : Flt Int := ⟨fun h => h⟩
instance : Flt Bool := ⟨fun h => h⟩
instance : Flt Str := ⟨fun h => h⟩
instance : Flt Unit := ⟨fun h => h⟩
instance {α : Type} [Py α] [Flt α] : Flt (Option α) := ⟨fun {G A H A' H' v a} h => match a, h with | none, h => h | some _, h => ⟨h.1, Flt.any h.2⟩⟩
/-- arguments that are kept -/
class PyL (τ : Type) extends PaL τ where
  mvL : ∀ {G A H A' H' vs} {t : τ}, repL G A H vs t → Mv A H A' H' → repL G A' H' vs t
  sl : τ → List Sl
  slen : ∀ t, (sl t).length = toPaL.n
  sok : ∀ {G A H vs} {t : τ}, repL G A H vs t → ∀ (A0 : Av) (H0 : Hp) (i : Nat) (s : Sl), (sl t)[i]? = some s → ∃ v, vs[i]? = some v ∧ SlR G A0 H0 A H (some v) s
  sno : ∀ t s, s ∈ sl t → s.own = false
instance : PyL Nl where
  mvL := fun h _ => h
  sl := fun _ => []
  slen := fun _ => rfl
  sok := fun _ _ _ i s e => by simp at e
  sno := fun _ s h => by simp at h
instance {α τ : Type} [Py α] [PyL τ] : PyL (Cn α τ) where
  mvL := fun ⟨v, r, e, h, k⟩ m => ⟨v, r, e, Py.mv h m, PyL.mvL k m⟩
  sl := fun t => .fx α t.a :: PyL.sl t.r
  slen := fun t => by rw [List.length_cons, PyL.slen t.r]; rfl
  sok := fun {G A H vs t} ⟨v, r, e, h, k⟩ A0 H0 i s es => by
    subst e
    cases i with
    | zero => cases es; exact ⟨v, rfl, v, rfl, h⟩
    | succ i => exact PyL.sok k A0 H0 i s es
  sno := fun t s h => by
    rcases List.mem_cons.mp h with rfl | h
    · rfl
    · exact PyL.sno t.r s h
/-- lists of our own, at these places -/
class ML (μ : Type) where
  n : Nat
  rp : Gx → Av → Hp → List Addr → μ → Prop
  sl : List Addr → μ → List Sl
  len : ∀ {G A H ps u}, rp G A H ps u → ps.length = n
  slen : ∀ {ps} {u : μ}, ps.length = n → (sl ps u).length = n
  st : ∀ {G A H A' H' ps u}, rp G A H ps u → St A H A' H' → rp G A' H' ps u
  flat : ∀ {G A H A' ps u}, rp G A H ps u → (∀ p ∈ ps, A'.M p ∧ ¬ A'.B p) → rp G A' H ps u
  own : ∀ {G A H ps u}, rp G A H ps u → ∀ p ∈ ps, A.M p ∧ ¬ A.B p ∧ H p ≠ none
  sok : ∀ {G A H ps u}, rp G A H ps u → ∀ (A0 : Av) (H0 : Hp), (∀ p ∈ ps, H0 p = none) → ∀ (i : Nat) (s : Sl), (sl ps u)[i]? = some s → ∃ p, ps[i]? = some p ∧ s.own = true ∧ SlR G A0 H0 A H (some (.ref p)) s
instance : ML Nl where
  n := 0
  rp := fun _ _ _ ps _ => ps = []
  sl := fun _ _ => []
  len := fun h => by rw [h]; rfl
  slen := fun _ => rfl
  st := fun h _ => h
  flat := fun h _ => h
  own := fun h p hp => by rw [h] at hp; cases hp
  sok := fun _ _ _ _ i s e => by simp at e
instance {α μ : Type} [Py α] [Flt α] [ML μ] : ML (Cn (List α) μ) where
  n := ML.n μ + 1
  rp := fun G A H ps u => ∃ p r vs, ps = p :: r ∧ A.M p ∧ ¬ A.B p ∧ H p = some (.lst vs) ∧ All2 (rep G A H) vs u.a ∧ ML.rp G A H r u.r
  sl := fun ps u => match ps with | [] => [] | p :: r => .mp α p u.a :: ML.sl r u.r
  len := fun ⟨p, r, vs, e, _, _, _, _, k⟩ => by rw [e, List.length_cons, ML.len k]
  slen := fun {ps u} h => by
    cases ps with
    | nil => cases h
    | cons p r => show (_ :: ML.sl r u.r).length = _; rw [List.length_cons, ML.slen (u := u.r) (by simpa using h)]
  st := fun ⟨p, r, vs, e, m, b, h, k, z⟩ s => ⟨p, r, vs, e, s.ms p m, fun b' => (s.nb p b').elim b (fun y => by rw [h] at y; cases y), s.k p _ b h, k.imp fun _ _ r => Flt.any r, ML.st z s⟩
  flat := fun ⟨p, r, vs, e, m, b, h, k, z⟩ s => by
    subst e
    have sp := s p List.mem_cons_self
    exact ⟨p, r, vs, rfl, sp.1, sp.2, h, k.imp fun _ _ r => Flt.any r, ML.flat z fun q hq => s q (List.mem_cons_of_mem _ hq)⟩
  own := fun ⟨p, r, vs, e, m, b, h, k, z⟩ q hq => by
    subst e
    rcases List.mem_cons.mp hq with y | y
    · subst y; exact ⟨m, b, by rw [h]; exact nofun⟩
    · exact ML.own z q y
  sok := fun {G A H ps u} ⟨p, r, vs, e, m, b, h, k, z⟩ A0 H0 h0 i s es => by
    subst e
    cases i with
    | zero =>
      have es : some (Sl.mp α p u.a) = some s := es
      cases es
      exact ⟨p, rfl, rfl, p, _, rfl, m, b, h0 p List.mem_cons_self, h, rfl, vs, rfl, k⟩
    | succ i =>
      obtain ⟨q, h1, h2, h3⟩ := ML.sok z A0 H0 (fun q hq => h0 q (List.mem_cons_of_mem _ hq)) i s es
      exact ⟨q, h1, h2, h3⟩
open Classical in
@[reducible] def paM {β μ : Type} [Pa β] [ML μ] (ps : List Addr) : Pa (Cn β μ) where
  rep := fun G A H v r => rep G A H v r.a ∧ ML.rp G A H ps r.r
  st := fun h d s => ⟨Pa.st h.1 d s, ML.st h.2 s⟩
section
variable {Γ : Cxt} {A A' : Av} {H H' : Hp} {σ : L2.St} {δ δ' : List Sl} {S L α β γ τ μ : Type} {Δ : S → List Sl} {ΔL : L → List Sl} {te : TE} {tl ta : TA}
end
end TW
set_option Elab.async false
set_option maxRecDepth 100000
set_option maxHeartbeats 4000000
set_option linter.all false
set_option autoImplicit false
/-! TW30: defs that change the lists they are given: the def, the call -/
namespace TW
open Pa (rep)
open PaL (repL)
open PySem PySem.Spec PyProof.Rows L2 My
section
variable {Γ : Cxt} {A A' : Av} {H H' : Hp} {σ : L2.St} {δ δ' : List Sl} {S L α β γ τ μ : Type} {Δ : S → List Sl} {ΔL : L → List Sl} {te ti : TE} {tl ta : TA}
/-! ### in the def -/
/-! ### the call -/
def PsAt (σ : L2.St) (ps : List Addr) (js : List Nat) : Prop := ps.length = js.length ∧ ∀ (k j : Nat), js[k]? = some j → ∃ p, ps[k]? = some p ∧ σ[j]? = some (some (.ref p))
/-- a list is ours again -/
theorem Iv.reown [Py α] (I : Iv Γ A H σ δ) {j : Nat} {p : Addr} {vs : List V} {xs : List α} (hj : δ[j]? = some .un) (hs : σ[j]? = some (some (.ref p))) (m : A.M p) (b : ¬ A.B p) (n : Γ.H0 p = none) (h : H p = some (.lst vs)) (k : All2 (rep Γ.G A H) vs xs)
    (sep : ∀ (i : Nat) (s : Sl), δ[i]? = some s → s.own = true → σ[i]? = some (some (.ref p)) → False) : Iv Γ A H σ (δ.set j (.mu α xs)) := by
  have hi : j < δ.length := (List.getElem?_eq_some_iff.mp hj).1
  refine ⟨by rw [List.length_set]; exact I.len, fun i s e => ?_, fun i i' s t q hii ei ei' os ot pi pi' => ?_, I.d0, I.st, I.er⟩
  · by_cases hji : j = i
    · subst hji
      rw [List.getElem?_set_self hi] at e
      cases e
      exact ⟨_, hs, p, _, rfl, m, b, n, h, vs, rfl, k⟩
    · rw [List.getElem?_set_ne hji] at e
      exact I.at_ i s e
  · by_cases hji : j = i
    · subst hji
      have hk : j ≠ i' := hii
      rw [List.getElem?_set_ne hk] at ei'
      rw [hs] at pi
      cases pi
      exact sep i' t ei' ot pi'
    · rw [List.getElem?_set_ne hji] at ei
      by_cases hk : j = i'
      · subst hk
        rw [hs] at pi'
        cases pi'
        exact sep i s ei os pi
      · rw [List.getElem?_set_ne hk] at ei'
        exact I.sep i i' s t q hii ei ei' os ot pi pi'
end
/-- contents into slots -/
class MP (μ : Type) [ML μ] where
  put : List Sl → List Nat → μ → List Sl
  iv : ∀ {Γ A H σ δ} {js : List Nat} {ps : List Addr} {u : μ}, Iv Γ A H σ δ → PsAt σ ps js → ps.Nodup → js.Nodup → (∀ j ∈ js, δ[j]? = some .un) → (∀ p ∈ ps, Γ.H0 p = none) → ML.rp Γ.G A H ps u →
    (∀ (i : Nat) (s : Sl) (p : Addr), δ[i]? = some s → s.own = true → σ[i]? = some (some (.ref p)) → p ∉ ps) → Iv Γ A H σ (put δ js u)
  len : ∀ δ js u, (put δ js u).length = δ.length
instance : MP Nl where
  put := fun δ _ _ => δ
  iv := fun I _ _ _ _ _ _ _ => I
  len := fun _ _ _ => rfl
instance {α μ : Type} [Py α] [Flt α] [ML μ] [MP μ] : MP (Cn (List α) μ) where
  put := fun δ js u => match js with | [] => δ | j :: r => MP.put (δ.set j (.mu α u.a)) r u.r
  len := fun δ js u => by
    cases js with
    | nil => rfl
    | cons j r => show (MP.put _ r u.r).length = _; rw [MP.len, List.length_set]
  iv := fun {Γ A H σ δ js ps u} I hp nd nj hu h0 hr sep => by
    cases js with
    | nil => exact I
    | cons j r =>
      obtain ⟨p, rs, vs, e, m, b, h, k, z⟩ := hr
      subst e
      obtain ⟨h1, h2⟩ := hp
      obtain ⟨q, e1, e2⟩ := h2 0 j rfl
      cases e1
      obtain ⟨np, nd⟩ := List.nodup_cons.mp nd
      obtain ⟨njr, nj⟩ := List.nodup_cons.mp nj
      have I2 := I.reown (hu j List.mem_cons_self) e2 m b (h0 p List.mem_cons_self) h k fun i s e o y => sep i s p e o y List.mem_cons_self
      have hj : j < δ.length := (List.getElem?_eq_some_iff.mp (hu j List.mem_cons_self)).1
      refine MP.iv (ps := rs) I2 ⟨by simpa using h1, fun k j' e => h2 (k + 1) j' e⟩ nd nj (fun j' hj' => ?_) (fun p hp => h0 p (List.mem_cons_of_mem _ hp)) z fun i s p' e o y => ?_
      · have : j ≠ j' := fun z => by subst z; exact njr hj'
        rw [List.getElem?_set_ne this]
        exact hu j' (List.mem_cons_of_mem _ hj')
      · by_cases hji : j = i
        · subst hji
          rw [e2] at y
          cases y
          exact np
        · rw [List.getElem?_set_ne hji] at e
          exact fun z => sep i s p' e o y (List.mem_cons_of_mem _ z)
end TW
set_option Elab.async false
set_option maxRecDepth 100000
set_option maxHeartbeats 4000000
set_option linter.all false
set_option autoImplicit false
/-! TW31: x = f(.., l1, l2): the callee changes our lists -/
namespace TW
open Pa (rep)
open PaL (repL)
open PySem PySem.Spec PyProof.Rows L2 My
section
variable {Γ : Cxt} {A A' : Av} {H H' : Hp} {σ : L2.St} {δ δ' : List Sl} {S L α β γ τ μ ρ : Type} {Δ : S → List Sl} {ΔL : L → List Sl} {te ti : TE} {tl ta : TA}
end
end TW
set_option Elab.async false
set_option maxRecDepth 100000
set_option maxHeartbeats 4000000
set_option linter.all false
set_option autoImplicit false
/-! TW32: one of two types -/
namespace TW
open Pa (rep)
open PaL (repL)
open PySem PySem.Spec PyProof.Rows L2 My
inductive Sm2 (α β : Type) where
  | a (x : α) | b (x : β)
instance {α β : Type} [Py α] [Py β] : Py (Sm2 α β) where
  rep := fun G A H v s => match s with | .a x => rep G A H v x | .b x => rep G A H v x
  st := fun {G A H A' H' v s} h d t => match s, h with | .a _, h => Pa.st h d t | .b _, h => Pa.st h d t
  mv := fun {G A H A' H' v s} h t => match s, h with | .a _, h => Py.mv h t | .b _, h => Py.mv h t
section
variable {Γ : Cxt} {te : TE} {δ : List Sl} {α β : Type}
theorem ev_s2a [Py α] [Py β] {m : W α} (h : EvT Γ te δ m) : EvT (α := Sm2 α β) Γ te δ (m >>= fun a => pure (Sm2.a a)) := ev_as (Sm2.a (α := α) (β := β)) (fun _ _ _ _ _ r => r) h
theorem ev_s2b [Py α] [Py β] {m : W β} (h : EvT Γ te δ m) : EvT (α := Sm2 α β) Γ te δ (m >>= fun a => pure (Sm2.b a)) := ev_as (Sm2.b (α := α) (β := β)) (fun _ _ _ _ _ r => r) h
end
end TW
set_option Elab.async false
set_option maxRecDepth 100000
set_option maxHeartbeats 4000000
set_option linter.all false
set_option autoImplicit false
/-! TW33: list(range(n)) -/
namespace TW
open Pa (rep)
open PaL (repL)
open PySem PySem.Spec PyProof.Rows L2 My
section
variable {Γ : Cxt} {te : TE} {δ : List Sl}
end
end TW
set_option Elab.async false
set_option maxRecDepth 100000
set_option maxHeartbeats 4000000
set_option linter.all false
set_option autoImplicit false
/-! TW34: x, y = e, [..] with a list of our own -/
namespace TW
open Pa (rep)
open PaL (repL)
open PySem PySem.Spec PyProof.Rows L2 My
section
variable {Γ : Cxt} {δ : List Sl} {α β γ L : Type} {ΔL : L → List Sl} {ta tb : TE}
theorem st_parFM [Py α] [Py γ] [Pa β] {i j : Nat} {m : W α} {n : W (List γ)} (h : EvT Γ ta δ m) (k : EvF Γ tb δ n) (hi : i < δ.length := by first | decide | simp) (hj : j < δ.length := by first | decide | simp) :
    StT (β := β) (L := L) Γ (tPar i j (tCons ta (tCons tb tNil))) δ ((m >>= fun a => n >>= fun b => pure (T2.mk a b)) >>= fun a => pure (.nx a)) (fun t => (δ.set i (.fx α t.a)).set j (.mu γ t.b)) ΔL := fun σ A H D I q => by
  refine h σ A H _ I (m.mono (fun a q x A1 H1 s1 r1 => ?_) (fun _ h => h) q)
  refine k σ A1 H1 _ (I.step s1) (n.mono (fun b q p2 vs2 A2 H2 np2 mp2 bp2 s2 hp2 k2 => ?_) (fun _ h => h) q)
  exact ⟨x, .ref p2, rfl, q _ A2 H2 (I.stepMv (s1.trans s2)) (((I.step s1).fx r1 hi).putM np2 mp2 bp2 s2 hp2 k2 (by rw [List.length_set]; exact hj))⟩
def Sm2.elim {α β γ : Type} (f : α → γ) (g : β → γ) : Sm2 α β → γ
  | .a x => f x
  | .b y => g y
end
end TW
set_option Elab.async false
set_option maxRecDepth 100000
set_option maxHeartbeats 4000000
set_option linter.all false
set_option autoImplicit false
/-! TW35: what is never asked; def f(a, .., *v, k = c) called without k -/
namespace TW
open Pa (rep)
open PaL (repL)
open PySem PySem.Spec PyProof.Rows L2 My
section
variable {Γ : Cxt} {δ : List Sl} {α β τ τ2 : Type} {X : Cx} {e : Expr}
/-- called without k, whose value is None -/
structure StcK (τ α τ2 : Type) [PaL τ] [Py α] [PaL τ2] where
  n : Nat
  cv : τ → τ2
  ok : ∀ {G A H vs} {t : τ}, repL G A H vs t → ∃ (ws rest : List V), vs = ws ++ rest ∧ ws.length = n ∧ rest.length + n = PaL.n τ ∧ ∀ (A' : Av) (H' : Hp) (p : Addr), Dom A H → TW.St A H A' H' → ¬ A'.M p → H' p = some (.tup rest) → repL G A' H' (ws ++ [V.non, V.ref p]) (cv t)
end
end TW
set_option Elab.async false
set_option maxRecDepth 100000
set_option maxHeartbeats 4000000
set_option linter.all false
set_option autoImplicit false
/-! TW36: data whose equality is equality; x in a list of data -/
namespace TW
open Pa (rep)
open PaL (repL)
open PySem PySem.Spec PyProof.Rows L2 My
instance {α : Type} [DecidableEq α] : DecidableEq (Bor α) := fun a b => decidable_of_iff (a.l = b.l) ⟨fun h => by cases a; cases b; exact congrArg _ h, fun h => by rw [h]⟩
instance {α : Type} [DecidableEq α] : DecidableEq (Tup α) := fun a b => decidable_of_iff (a.l = b.l) ⟨fun h => by cases a; cases b; exact congrArg _ h, fun h => by rw [h]⟩
instance {α β : Type} [DecidableEq α] [DecidableEq β] : DecidableEq (T2 α β) := fun a b => decidable_of_iff (a.a = b.a ∧ a.b = b.b) ⟨fun ⟨h, k⟩ => by cases a; cases b; cases h; cases k; rfl, fun h => by rw [h]; exact ⟨rfl, rfl⟩⟩
instance {α β γ : Type} [DecidableEq α] [DecidableEq β] [DecidableEq γ] : DecidableEq (T3 α β γ) := fun a b => decidable_of_iff (a.a = b.a ∧ a.b = b.b ∧ a.c = b.c) ⟨fun ⟨h, k, l⟩ => by cases a; cases b; cases h; cases k; cases l; rfl, fun h => by rw [h]; exact ⟨rfl, rfl, rfl⟩⟩
/-- data of a bounded depth, equal if they are the same -/
class Dn (α : Type) [Pa α] [Dt α] where
  dep : Nat
  lay : ∀ a : α, (Dt.d a).canLay0 = true ∧ (Dt.d a).depth ≤ dep
  eq : ∀ a b : α, PyData.eqv (Dt.d a) (Dt.d b) = true ↔ a = b
class Nn (α : Type) [Pa α] [Dt α] : Prop where
  nn : ∀ a : α, PyData.eqv .none (Dt.d a) = false ∧ PyData.eqv (Dt.d a) .none = false
instance : Dn Int := ⟨0, fun _ => ⟨rfl, Nat.le_refl _⟩, fun a b => by show (a == b) = true ↔ _; simp⟩
instance : Dn Bool := ⟨0, fun _ => ⟨rfl, Nat.le_refl _⟩, fun a b => by show (a == b) = true ↔ _; simp⟩
instance : Nn Int := ⟨fun _ => ⟨rfl, rfl⟩⟩
instance : Nn Bool := ⟨fun _ => ⟨rfl, rfl⟩⟩
instance : Nn Str := ⟨fun _ => ⟨rfl, rfl⟩⟩
theorem canLay_all {α : Type} (f : α → PyData) (n : Nat) : ∀ xs : List α, (∀ x ∈ xs, (f x).canLay0 = true ∧ (f x).depth ≤ n) → PyData.canLayAll0 (xs.map f) = true ∧ PyData.depthAll (xs.map f) ≤ n
  | [], _ => ⟨rfl, Nat.zero_le _⟩
  | x :: xs, h => by
    obtain ⟨a, b⟩ := canLay_all f n xs fun y hy => h y (List.mem_cons_of_mem _ hy)
    obtain ⟨c, d⟩ := h x (List.mem_cons_self ..)
    refine ⟨?_, ?_⟩
    · show (PyData.canLay0 (f x) && PyData.canLayAll0 (xs.map f)) = true
      rw [c, a]; rfl
    · show max (PyData.depth (f x)) (PyData.depthAll (xs.map f)) ≤ n
      omega
theorem eqvAll_map {α : Type} (f : α → PyData) (h : ∀ a b, PyData.eqv (f a) (f b) = true ↔ a = b) : ∀ xs ys : List α, PyData.eqvAll (xs.map f) (ys.map f) = true ↔ xs = ys
  | [], [] => by simp [PyData.eqvAll]
  | [], y :: ys => by simp [PyData.eqvAll]
  | x :: xs, [] => by simp [PyData.eqvAll]
  | x :: xs, y :: ys => by
    show (PyData.eqv (f x) (f y) && PyData.eqvAll (xs.map f) (ys.map f)) = true ↔ _
    rw [Bool.and_eq_true, h, eqvAll_map f h xs ys, List.cons.injEq]
section
variable {α β γ : Type}
instance [Py α] [Dt α] [Dn α] : Dn (List α) where
  dep := Dn.dep α + 1
  lay l := by
    obtain ⟨a, b⟩ := canLay_all (Dt.d (α := α)) (Dn.dep α) l fun x _ => Dn.lay x
    exact ⟨a, Nat.succ_le_succ b⟩
  eq a b := eqvAll_map _ Dn.eq a b
instance [Py α] [Dt α] [Dn α] : Dn (Bor α) where
  dep := Dn.dep α + 1
  lay l := by
    obtain ⟨a, b⟩ := canLay_all (Dt.d (α := α)) (Dn.dep α) l.l fun x _ => Dn.lay x
    exact ⟨a, Nat.succ_le_succ b⟩
  eq a b := (eqvAll_map _ Dn.eq a.l b.l).trans ⟨fun e => by cases a; cases b; exact congrArg _ e, fun e => by rw [e]⟩
instance [Py α] [Dt α] [Dn α] : Dn (Tup α) where
  dep := Dn.dep α + 1
  lay l := by
    obtain ⟨a, b⟩ := canLay_all (Dt.d (α := α)) (Dn.dep α) l.l fun x _ => Dn.lay x
    exact ⟨a, Nat.succ_le_succ b⟩
  eq a b := (eqvAll_map _ Dn.eq a.l b.l).trans ⟨fun e => by cases a; cases b; exact congrArg _ e, fun e => by rw [e]⟩
instance [Py α] [Dt α] : Nn (List α) := ⟨fun _ => ⟨rfl, rfl⟩⟩
instance [Py α] [Dt α] : Nn (Bor α) := ⟨fun _ => ⟨rfl, rfl⟩⟩
instance [Py α] [Dt α] : Nn (Tup α) := ⟨fun _ => ⟨rfl, rfl⟩⟩
instance [Py α] [Py β] [Dt α] [Dt β] : Nn (T2 α β) := ⟨fun _ => ⟨rfl, rfl⟩⟩
instance [Py α] [Py β] [Py γ] [Dt α] [Dt β] [Dt γ] : Nn (T3 α β γ) := ⟨fun _ => ⟨rfl, rfl⟩⟩
instance [Py α] [Py β] [Dt α] [Dt β] [Dn α] [Dn β] : Dn (T2 α β) where
  dep := max (Dn.dep α) (Dn.dep β) + 1
  lay t := by
    obtain ⟨a, b⟩ := Dn.lay t.a
    obtain ⟨c, d⟩ := Dn.lay t.b
    refine ⟨?_, ?_⟩
    · show (PyData.canLay0 (Dt.d t.a) && (PyData.canLay0 (Dt.d t.b) && true)) = true
      rw [a, c]; rfl
    · show max (PyData.depth (Dt.d t.a)) (max (PyData.depth (Dt.d t.b)) 0) + 1 ≤ _
      omega
  eq x y := by
    show (PyData.eqv (Dt.d x.a) (Dt.d y.a) && (PyData.eqv (Dt.d x.b) (Dt.d y.b) && true)) = true ↔ _
    rw [Bool.and_true, Bool.and_eq_true, Dn.eq, Dn.eq]
    cases x; cases y
    simp
instance [Py α] [Py β] [Py γ] [Dt α] [Dt β] [Dt γ] [Dn α] [Dn β] [Dn γ] : Dn (T3 α β γ) where
  dep := max (Dn.dep α) (max (Dn.dep β) (Dn.dep γ)) + 1
  lay t := by
    obtain ⟨a, b⟩ := Dn.lay t.a
    obtain ⟨c, d⟩ := Dn.lay t.b
    obtain ⟨e, f⟩ := Dn.lay t.c
    refine ⟨?_, ?_⟩
    · show (PyData.canLay0 (Dt.d t.a) && (PyData.canLay0 (Dt.d t.b) && (PyData.canLay0 (Dt.d t.c) && true))) = true
      rw [a, c, e]; rfl
    · show max (PyData.depth (Dt.d t.a)) (max (PyData.depth (Dt.d t.b)) (max (PyData.depth (Dt.d t.c)) 0)) + 1 ≤ _
      omega
  eq x y := by
    show (PyData.eqv (Dt.d x.a) (Dt.d y.a) && (PyData.eqv (Dt.d x.b) (Dt.d y.b) && (PyData.eqv (Dt.d x.c) (Dt.d y.c) && true))) = true ↔ _
    rw [Bool.and_true, Bool.and_eq_true, Bool.and_eq_true, Dn.eq, Dn.eq, Dn.eq]
    cases x; cases y
    simp
instance [Py α] [Dt α] [Dn α] [Nn α] : Dn (Option α) where
  dep := Dn.dep α
  lay o := match o with
    | none => ⟨rfl, Nat.zero_le _⟩
    | some a => Dn.lay a
  eq x y := match x, y with
    | none, none => ⟨fun _ => rfl, fun _ => rfl⟩
    | some a, some b => (Dn.eq a b).trans ⟨fun e => by rw [e], fun e => Option.some.inj e⟩
    | none, some a => ⟨fun h => by have := (Nn.nn a).1; rw [show PyData.eqv (Dt.d (none : Option α)) (Dt.d (some a)) = false from this] at h; exact absurd h (by simp), fun h => nomatch h⟩
    | some a, none => ⟨fun h => by have := (Nn.nn a).2; rw [show PyData.eqv (Dt.d (some a)) (Dt.d (none : Option α)) = false from this] at h; exact absurd h (by simp), fun h => nomatch h⟩
@[simp] theorem wipeS_len' (δ : List Sl) : ∀ js : List Nat, (wipeS δ js).length = δ.length
  | [] => rfl
  | j :: js => by
    unfold wipeS
    rw [List.length_set]
    exact wipeS_len' δ js
theorem shd_dn [Pa α] [Dt α] [Dn α] (a : α) (h : Dn.dep α ≤ 64 := by decide) : shd a := by
  obtain ⟨x, y⟩ := Dn.lay a
  show (PyData.canLay0 (Dt.d a) && decide (PyData.depth (Dt.d a) ≤ 64)) = true
  rw [x, decide_eq_true (Nat.le_trans y h)]
  rfl
theorem dtEq_dn [Pa α] [Dt α] [Dn α] [DecidableEq α] (a b : α) : dtEq a b = decide (a = b) := by
  show PyData.eqv (Dt.d a) (Dt.d b) = _
  rw [Bool.eq_iff_iff, Dn.eq, decide_eq_true_iff]
/-! ### x in a list of data -/
variable {Γ : Cxt}
section
variable {X : Cx} {K : PySem.W.Frag} {tg : Expr}
theorem pi_listK {l : Expr} {tl : TE} (h : X.K = K) (hl : PE X l tl) : PI X tg l (iList K tl) := by subst h; exact pi_list hl
theorem pi_tupK {l : Expr} {tl : TE} (h : X.K = K) (hl : PE X l tl) : PI X tg l (iTup K tl) := by subst h; exact pi_tup hl
end
end
end TW
set_option Elab.async false
set_option maxRecDepth 100000
set_option maxHeartbeats 8000000
set_option linter.all false
set_option autoImplicit false
/-! TWC: the classes of the program, as values -/
namespace TW
open Pa (rep)
open PaL (repL)
open PySem PySem.Spec PyProof.Rows L2 My

structure Order where
  layers : (Tup Int)
instance : Obj Order := ⟨0, fun o => [⟨"layers", (Tup Int), inferInstance, o.layers⟩]⟩
instance : PyO Order := { pyObj Order with toObj := inferInstance, is := Iff.rfl }
structure Saying where
  «where» : Int
  «then» : Int
  usual : Bool
  confirm : Int
  broken : Int
  low : Int
  high : Int
  step : Int
instance : Obj Saying := ⟨1, fun o => [⟨"where", Int, inferInstance, o.«where»⟩, ⟨"then", Int, inferInstance, o.«then»⟩, ⟨"usual", Bool, inferInstance, o.usual⟩, ⟨"confirm", Int, inferInstance, o.confirm⟩, ⟨"broken", Int, inferInstance, o.broken⟩, ⟨"low", Int, inferInstance, o.low⟩, ⟨"high", Int, inferInstance, o.high⟩, ⟨"step", Int, inferInstance, o.step⟩]⟩
instance : PyO Saying := { pyObj Saying with toObj := inferInstance, is := Iff.rfl }
structure Marks where
  names : (Tup Str)
  count : Int
  days : Int
  all_days : Int
instance : Obj Marks := ⟨2, fun o => [⟨"names", (Tup Str), inferInstance, o.names⟩, ⟨"count", Int, inferInstance, o.count⟩, ⟨"days", Int, inferInstance, o.days⟩, ⟨"all_days", Int, inferInstance, o.all_days⟩]⟩
instance : PyO Marks := { pyObj Marks with toObj := inferInstance, is := Iff.rfl }
structure Book where
  marks : Marks
  sayings : (Tup Saying)
instance : Obj Book := ⟨3, fun o => [⟨"marks", Marks, inferInstance, o.marks⟩, ⟨"sayings", (Tup Saying), inferInstance, o.sayings⟩]⟩
instance : PyO Book := { pyObj Book with toObj := inferInstance, is := Iff.rfl }
structure Lifted where
  order : Order
  reasons : (Tup (Option Int))
  heights : (Tup Int)
instance : Obj Lifted := ⟨4, fun o => [⟨"order", Order, inferInstance, o.order⟩, ⟨"reasons", (Tup (Option Int)), inferInstance, o.reasons⟩, ⟨"heights", (Tup Int), inferInstance, o.heights⟩]⟩
instance : PyO Lifted := { pyObj Lifted with toObj := inferInstance, is := Iff.rfl }
structure Stuck where
  days : Int
  reasons : (Tup (Option Int))
  heights : (Tup Int)
instance : Obj Stuck := ⟨5, fun o => [⟨"days", Int, inferInstance, o.days⟩, ⟨"reasons", (Tup (Option Int)), inferInstance, o.reasons⟩, ⟨"heights", (Tup Int), inferInstance, o.heights⟩]⟩
instance : PyO Stuck := { pyObj Stuck with toObj := inferInstance, is := Iff.rfl }
end TW
set_option Elab.async false
set_option maxRecDepth 100000
set_option maxHeartbeats 4000000
set_option linter.all false
set_option autoImplicit false
/-! TW37: zip of a tuple and a list, either way -/
namespace Zm
open PySem PySem.Spec PyProof.Rows L2
open PySem.Sem (wp)
/-- a row of things: a tuple (c) or a list -/
def Rw (c : Bool) (h : Heap) (l : Addr) (xs : Array Value) : Prop := if c = true then h.IsTuple l xs else h.IsList l xs
/-- one who walks it -/
def Wk (c : Bool) (h : Heap) (i l : Addr) (k : Nat) : Prop := if c = true then h.IsTupleIter i l k else h.IsListIter i l k
theorem Rw.but {c : Bool} {h h' : Heap} {a b : Addr} {xs : Array Value} (r : Rw c h a xs) (e : Heap.ExtBut b h h') (n : a ≠ b) : Rw c h' a xs := by
  cases c
  · exact Heap.IsList.extBut r e n
  · exact Heap.IsTuple.extBut r e n
theorem Wk.but {c : Bool} {h h' : Heap} {a b l : Addr} {k : Nat} (r : Wk c h a l k) (e : Heap.ExtBut b h h') (n : a ≠ b) : Wk c h' a l k := by
  cases c
  · exact Heap.IsListIter.extBut r e n
  · exact Heap.IsTupleIter.extBut r e n
theorem Wk.kept {c : Bool} {h h' : Heap} {a l : Addr} {k : Nat} (r : Wk c h a l k) (e : ∀ o, h.get? a = some o → h'.get? a = some o) : Wk c h' a l k := by
  cases c
  · exact Heap.IsListIter.at r e
  · exact Heap.IsTupleIter.at r e
theorem Wk.obj {c : Bool} {h : Heap} {a l : Addr} {k : Nat} (r : Wk c h a l k) : ∃ o, h.get? a = some o ∧ ∀ v, o.data ≠ .cell v := by
  cases c
  · obtain ⟨o, e, _, d⟩ := r
    exact ⟨o, e, fun v q => by rw [d] at q; cases q⟩
  · obtain ⟨o, e, _, d⟩ := r
    exact ⟨o, e, fun v q => by rw [d] at q; cases q⟩
section
variable {prog : Program} {w : World} {A : Around} {E : Value → Shared → Prop} {s : Shared}
theorem nx_item {c : Bool} {it l : Addr} {i : Nat} {items : Array Value} {x : Value} {Q : Value → Shared → Prop} (hw : Wk c s.heap it l i) (hr : Rw c s.heap l items) (hx : items[i]? = some x)
    (hQ : ∀ h', Wk c h' it l (i + 1) → Heap.SameBut it s.heap h' → Q x { s with heap := h' }) : wpAny (model prog w) A (Builtin.SmallTypes.nextOf (.ref it)) Q E s := by
  cases c
  · exact wpAny_nextOf_list_item hw hr hx hQ
  · exact RZ.nextOf_tuple_item hw hr hx hQ
theorem nx_end {c : Bool} {it l : Addr} {i : Nat} {items : Array Value} {Q : Value → Shared → Prop} (hh : A.handled = none) (hw : Wk c s.heap it l i) (hr : Rw c s.heap l items) (hx : items[i]? = none)
    (hE : ∀ h' e, Heap.ExtBut it s.heap h' → (∃ o, h'.get? e = some o ∧ o.cls = .type "StopIteration") → E (.ref e) { s with heap := h' }) : wpAny (model prog w) A (Builtin.SmallTypes.nextOf (.ref it)) Q E s := by
  cases c
  · exact wpAny_nextOf_list_end hh hw hr hx hE
  · exact RZ.nextOf_tuple_end hh hw hr hx hE
/-- what is the same but for four -/
def But4 (z t i j : Addr) (h h' : Heap) : Prop := ∀ b o, b ≠ z → b ≠ t → b ≠ i → b ≠ j → h.get? b = some o → h'.get? b = some o
variable {c d : Bool} {z TI TO i j l m : Addr} {a b : Nat} {xs ys : Array Value} {x y p q : Value}
/-- the tuple handed out -/
theorem handed {h : Heap} {z TI TO n : Addr} {x y : Value} (hn : h.objs.size = n) (Z : IsZip h z TI TO .ellipsis) (h' : Heap) (e : h' = (((h.push { cls := .type "tuple", data := .seq #[x, y] }).update z (Obj.mapFields fun v => v.setIfInBounds 0 (rawInt h.objs.size))).update z (Obj.mapFields fun v => v.setIfInBounds 1 (.bool false)))) :
    IsZip h' z TI TO (rawInt n) ∧ IsPair h' n x y ∧ h'.objs.size = n + 1 ∧ ∀ b o, b ≠ z → h.get? b = some o → h'.get? b = some o := by
  subst e hn
  have up : ∀ b o, b ≠ z → (h.push { cls := .type "tuple", data := .seq #[x, y] }).get? b = some o → (((h.push { cls := .type "tuple", data := .seq #[x, y] }).update z (Obj.mapFields fun v => v.setIfInBounds 0 (rawInt h.objs.size))).update z (Obj.mapFields fun v => v.setIfInBounds 1 (.bool false))).get? b = some o :=
    fun b o n r => Heap.get?_update_of_ne _ n.symm (Heap.get?_update_of_ne _ n.symm r)
  refine ⟨Heap.get?_update_self _ (Heap.get?_update_self _ (Heap.get?_push_of_some _ Z) rfl) rfl, up _ _ (Nat.ne_of_gt (Heap.lt_size Z)) (Heap.get?_push_size _ rfl), by simp [Heap.size_push], fun b o n r => up b o n (Heap.get?_push_of_some _ r)⟩
theorem go_item {Q : Value → Shared → Prop} (D : ZipApart z TI TO i j l m) (Z : IsZip s.heap z TI TO .none) (I : IsPair s.heap TI (.ref i) (.ref j)) (O : IsPair s.heap TO p q)
    (W1 : Wk c s.heap i l a) (W2 : Wk d s.heap j m b) (R1 : Rw c s.heap l xs) (R2 : Rw d s.heap m ys) (X : xs[a]? = some x) (Y : ys[b]? = some y)
    (K : ∀ h', IsZip h' z TI TO (rawInt s.heap.objs.size) → IsPair h' TO x y → Wk c h' i l (a + 1) → Wk d h' j m (b + 1) → IsPair h' s.heap.objs.size x y → h'.objs.size = s.heap.objs.size + 1 → But4 z TO i j s.heap h' → Q (.ref s.heap.objs.size) { s with heap := h' }) :
    wpAny (model prog w) A (Builtin.«zip.__next__» ⟨[.ref z], []⟩) (fun fin s' => ∃ v, fin = .done (.ret v) ∧ Q v s') E s := by
  obtain ⟨hp, g, dr, tk, os⟩ := s
  dsimp only at Z I O W1 W2 R1 R2 K
  unfold Builtin.«zip.__next__»
  iterate 69 (first | assumption | wp_step)
  have U1 := Heap.SameBut.update (h := hp) (a := z) (f := Obj.mapFields fun x => x.setIfInBounds 0 Value.ellipsis)
  have Z1 : IsZip (hp.update z (Obj.mapFields fun x => x.setIfInBounds 0 Value.ellipsis)) z TI TO .ellipsis := Heap.get?_update_self _ Z rfl
  refine wpAny_onRaise (show wpAny _ _ (Builtin.SmallTypes.nextOf (.ref i) >>= _) _ _ _ from wpAny_bind (nx_item (W1.but U1.extBut D.i1z) (R1.but U1.extBut D.l1z) X fun g2 V1 S2 => wpAny_pure ?_))
  have O2 : IsPair g2 TO p q := S2.extBut _ _ D.TOi1 (U1.extBut _ _ D.TOz O)
  iterate 23 (first | assumption | wp_step)
  refine wpAny_onRaise (show wpAny _ _ (Builtin.SmallTypes.nextOf (.ref j) >>= _) _ _ _ from wpAny_bind ?_)
  have U3 := Heap.SameBut.update g2 TO (Obj.mapSeq fun v => v.setIfInBounds 0 x)
  have O3 : IsPair (g2.update TO (Obj.mapSeq fun v => v.setIfInBounds 0 x)) TO x q := Heap.get?_update_self _ O2 rfl
  refine nx_item (((W2.but U1.extBut D.i2z).but S2.extBut D.i12.symm).but U3.extBut D.TOi2.symm) (((R2.but U1.extBut D.l2z).but S2.extBut D.l2i1).but U3.extBut D.l2TO) Y fun g4 V2 S4 => wpAny_pure ?_
  have O4 : IsPair g4 TO x q := S4.extBut _ _ D.TOi2 O3
  have Z4 : IsZip g4 z TI TO .ellipsis := S4.extBut _ _ D.i2z.symm (U3.extBut _ _ D.TOz.symm (S2.extBut _ _ D.i1z.symm Z1))
  have n1 := D.TOz
  repeat (first | assumption | wp_step)
  have U5 := Heap.SameBut.update g4 TO (Obj.mapSeq fun v => v.setIfInBounds (0 + 1) y)
  have O5 : IsPair (g4.update TO (Obj.mapSeq fun v => v.setIfInBounds (0 + 1) y)) TO x y := Heap.get?_update_self _ O4 rfl
  have e5 : (g4.update TO (Obj.mapSeq fun v => v.setIfInBounds (0 + 1) y)).objs.size = hp.objs.size := by rw [U5.1, S4.1, U3.1, S2.1]; exact U1.1
  have Z5 : IsZip (g4.update TO (Obj.mapSeq fun v => v.setIfInBounds (0 + 1) y)) z TI TO .ellipsis := U5.extBut _ _ n1.symm Z4
  have k5 : But4 z TO i j hp (g4.update TO (Obj.mapSeq fun v => v.setIfInBounds (0 + 1) y)) := fun e o n1 n2 n3 n4 t => U5.extBut _ _ n2 (S4.extBut _ _ n4 (U3.extBut _ _ n2 (S2.extBut _ _ n3 (U1.extBut _ _ n1 t))))
  have V15 := ((V1.but U3.extBut D.TOi1.symm).but S4.extBut D.i12).but U5.extBut D.TOi1.symm
  have V25 := V2.but U5.extBut D.TOi2.symm
  obtain ⟨A1, A2, A3, A4⟩ := handed (x := x) (y := y) e5 Z5 _ rfl
  refine ⟨_, rfl, ?_⟩
  rw [show (.ref (g4.update TO (Obj.mapSeq fun v => v.setIfInBounds (0 + 1) y)).objs.size : Value) = .ref hp.objs.size from congrArg _ e5]
  exact K _ A1 (A4 _ _ n1 O5) (V15.kept fun o t => A4 _ o D.i1z t) (V25.kept fun o t => A4 _ o D.i2z t) A2 A3 fun e o n1 n2 n3 n4 t => A4 e o n1 (k5 e o n1 n2 n3 n4 t)
theorem go_end {Q : Fin → Shared → Prop} (hh : A.handled = none) (D : ZipApart z TI TO i j l m) (Z : IsZip s.heap z TI TO .none) (I : IsPair s.heap TI (.ref i) (.ref j)) (O : IsPair s.heap TO p q)
    (W1 : Wk c s.heap i l a) (W2 : Wk d s.heap j m b) (R1 : Rw c s.heap l xs) (R2 : Rw d s.heap m ys) (hend : xs[a]? = none ∨ ys[b]? = none)
    (K : ∀ h' e, But4 z TO i j s.heap h' → (∃ o, h'.get? e = some o ∧ o.cls = .type "StopIteration") → E (.ref e) { s with heap := h' }) : wpAny (model prog w) A (Builtin.«zip.__next__» ⟨[.ref z], []⟩) Q E s := by
  obtain ⟨hp, g, dr, tk, os⟩ := s
  dsimp only at Z I O W1 W2 R1 R2 K
  unfold Builtin.«zip.__next__»
  iterate 69 (first | assumption | wp_step)
  have U1 := Heap.SameBut.update (h := hp) (a := z) (f := Obj.mapFields fun x => x.setIfInBounds 0 Value.ellipsis)
  have Z1 : IsZip (hp.update z (Obj.mapFields fun x => x.setIfInBounds 0 Value.ellipsis)) z TI TO .ellipsis := Heap.get?_update_self _ Z rfl
  refine wpAny_onRaise (show wpAny _ _ (Builtin.SmallTypes.nextOf (.ref i) >>= _) _ _ _ from wpAny_bind ?_)
  cases X : xs[a]? with
  | none =>
    refine nx_end hh (W1.but U1.extBut D.i1z) (R1.but U1.extBut D.l1z) X fun g2 e S2 ⟨oe, t, ce⟩ => ?_
    have Z2 : IsZip g2 z TI TO .ellipsis := S2 _ _ D.i1z.symm Z1
    repeat (first | assumption | wp_step)
    have U3 := Heap.SameBut.update g2 z (Obj.mapFields fun v => v.setIfInBounds 0 Value.none)
    exact K _ e (fun f o n1 _ n3 _ r => U3.extBut _ _ n1 (S2 _ _ n3 (U1.extBut _ _ n1 r))) ⟨oe, U3.extBut _ _ (fun r => by subst r; rw [Z2] at t; cases t; simp at ce) t, ce⟩
  | some x =>
    have Y : ys[b]? = none := hend.resolve_left fun r => by rw [X] at r; cases r
    refine nx_item (W1.but U1.extBut D.i1z) (R1.but U1.extBut D.l1z) X fun g2 V1 S2 => wpAny_pure ?_
    have O2 : IsPair g2 TO p q := S2.extBut _ _ D.TOi1 (U1.extBut _ _ D.TOz O)
    iterate 23 (first | assumption | wp_step)
    have U3 := Heap.SameBut.update g2 TO (Obj.mapSeq fun v => v.setIfInBounds 0 x)
    refine wpAny_onRaise (show wpAny _ _ (Builtin.SmallTypes.nextOf (.ref j) >>= _) _ _ _ from wpAny_bind (nx_end hh (((W2.but U1.extBut D.i2z).but S2.extBut D.i12.symm).but U3.extBut D.TOi2.symm)
      (((R2.but U1.extBut D.l2z).but S2.extBut D.l2i1).but U3.extBut D.l2TO) Y fun g4 e S4 ⟨oe, t, ce⟩ => ?_))
    have Z4 : IsZip g4 z TI TO .ellipsis := S4 _ _ D.i2z.symm (U3.extBut _ _ D.TOz.symm (S2.extBut _ _ D.i1z.symm Z1))
    repeat (first | assumption | wp_step)
    have U5 := Heap.SameBut.update g4 z (Obj.mapFields fun v => v.setIfInBounds 0 Value.none)
    exact K _ e (fun f o n1 n2 n3 n4 r => U5.extBut _ _ n1 (S4 _ _ n4 (U3.extBut _ _ n2 (S2.extBut _ _ n3 (U1.extBut _ _ n1 r))))) ⟨oe, U5.extBut _ _ (fun r => by subst r; rw [Z4] at t; cases t; simp at ce) t, ce⟩
/-- what a zip stands on, in one -/
structure Zs (c d : Bool) (z TI TO i j l m : Addr) (k : Nat) (h : Heap) : Prop where
  zip : IsZip h z TI TO .none
  ins : IsPair h TI (.ref i) (.ref j)
  own : ∃ p q, IsPair h TO p q
  one : Wk c h i l k
  two : Wk d h j m k
theorem Zs.there {k : Nat} {h : Heap} (S : Zs c d z TI TO i j l m k h) : ∀ e ∈ [z, TI, TO, i, j], ∃ o, h.get? e = some o ∧ ∀ v, o.data ≠ .cell v := by
  obtain ⟨p, q, o⟩ := S.own
  simp only [List.forall_mem_cons]
  exact ⟨⟨_, S.zip, nofun⟩, ⟨_, S.ins, nofun⟩, ⟨_, o, nofun⟩, S.one.obj, S.two.obj, nofun⟩
theorem Zs.on {k : Nat} {h h' : Heap} (S : Zs c d z TI TO i j l m k h) (f : ∀ e ∈ [z, TI, TO, i, j], ∀ o, h.get? e = some o → h'.get? e = some o) : Zs c d z TI TO i j l m k h' := by
  simp only [List.forall_mem_cons] at f
  obtain ⟨f1, f2, f3, f4, f5, _⟩ := f
  obtain ⟨p, q, o⟩ := S.own
  exact ⟨f1 _ S.zip, f2 _ S.ins, ⟨p, q, f3 _ o⟩, S.one.kept f4, S.two.kept f5⟩
/-- pulling at a zip: what its own turn does, and the end of it caught -/
theorem pulled {Q : Option Value → Shared → Prop} {f0 : Value} (Z : IsZip s.heap z TI TO f0)
    (g : wpAny (model prog w) A.in1 (Builtin.«zip.__next__» ⟨[.ref z], []⟩) (fun fin s1 => ∃ v, fin = .done (.ret v) ∧ Q (some v) s1) (fun e s1 => s1.TypeIs e "StopIteration" ∧ Q none s1) s) : wpAny (model prog w) A (pyNext (.ref z)) Q E s := by
  have T : s.TypeIs (.ref z) "zip" := ⟨_, Z, rfl⟩
  unfold pyNext
  refine wpAny_bind (wpAny_attempt (wpAny_callSpecial?_slot T F.slot_zip_next (wpAny_call_entry F.slot_zip_next T F.entry_zip_next ?_ (F.args_zip_next_1 _))))
  exact wpAny_mono g (fun _ _ ⟨v, e, q⟩ => ⟨v, e, wpAny_pure q⟩) fun _ _ ⟨t, q⟩ => wpAny_bind (wpAny_isInstance t isSubtype_stop (wpAny_pure q))
theorem five {h h' : Heap} (k : But4 z TO i j h h') : ∀ e o, e ∉ [z, TI, TO, i, j] → h.get? e = some o → h'.get? e = some o := fun e o n t => by
  simp only [List.mem_cons, not_or] at n
  exact k e o n.1 n.2.2.1 n.2.2.2.1 n.2.2.2.2.1 t
theorem Zs.go {k : Nat} {elts : List Expr} {kk : Nat} {pos : Pos} {G : Value → Shared → Prop} (D : ZipApart z TI TO i j l m) (S : Zs c d z TI TO i j l m k s.heap) (R1 : Rw c s.heap l xs) (R2 : Rw d s.heap m ys) (X : xs[k]? = some x) (Y : ys[k]? = some y)
    (K : ∀ h', Zs c d z TI TO i j l m (k + 1) h' → IsPair h' s.heap.objs.size x y → (∀ e o, e ∉ [z, TI, TO, i, j] → s.heap.get? e = some o → h'.get? e = some o) → G (.ref s.heap.objs.size) { s with heap := h' }) :
    wpAny (model prog w) A (pyNext (.ref z)) (fun r s1 => ∃ u, r = some u ∧ wpAny (model prog w) A (letOwnedTupleGo (.Tuple elts kk pos) (.ref z) u) (fun _ s2 => G u s2) E s1) E s := by
  obtain ⟨p, q, O⟩ := S.own
  refine pulled S.zip (go_item D S.zip S.ins O S.one S.two R1 R2 X Y fun g1 Z1 O1 W1 W2 T1 _ k1 => ⟨_, rfl, wpAny_letOwnedTupleGo_zip (s := { s with heap := g1 }) Z1 fun g2 Z2 B => K g2 ?_ ?_ fun e o n t => ?_⟩)
  · exact ⟨Z2, B.extBut _ _ D.TIz (k1 _ _ D.TIz D.TITO D.TIi1 D.TIi2 S.ins), ⟨_, _, B.extBut _ _ D.TOz O1⟩, W1.but B.extBut D.i1z, W2.but B.extBut D.i2z⟩
  · exact B.extBut _ _ (Nat.ne_of_gt (Heap.lt_size S.zip)) T1
  · exact B.extBut _ _ (fun r => n (by simp [r])) (five k1 e o n t)
theorem Zs.stop {k : Nat} {Q : Option Value → Shared → Prop} (hh : A.handled = none) (D : ZipApart z TI TO i j l m) (S : Zs c d z TI TO i j l m k s.heap) (R1 : Rw c s.heap l xs) (R2 : Rw d s.heap m ys) (N : xs[k]? = none ∨ ys[k]? = none)
    (K : ∀ h', (∀ e o, e ∉ [z, TI, TO, i, j] → s.heap.get? e = some o → h'.get? e = some o) → Q none { s with heap := h' }) : wpAny (model prog w) A (pyNext (.ref z)) Q E s := by
  obtain ⟨p, q, O⟩ := S.own
  exact pulled S.zip (go_end hh D S.zip S.ins O S.one S.two R1 R2 N fun g1 e k1 t => ⟨t, K g1 (five k1)⟩)
end
/-! ### made -/
theorem Rw.lt {c : Bool} {h : Heap} {l : Addr} {xs : Array Value} (r : Rw c h l xs) : l < h.objs.size := by
  cases c
  · obtain ⟨_, e, _⟩ := r
    exact Heap.lt_size e
  · obtain ⟨_, e, _⟩ := r
    exact Heap.lt_size e
section
variable {prog : Program} {w : World} {A : Around} {E : Value → Shared → Prop} {s : Shared}
end
/-! ### as a walk -/
def SqX (c : Bool) (K : PySem.W.Frag) (H : Hp) (a : Addr) (xs : List V) : Prop := if c = true then SqT K H a xs else SqL K H a xs
theorem SqX.rw {c : Bool} {X : Cx} {pins : List (Addr × PySem.Obj)} {σ : L2.St} {H : Hp} {s : Shared} {a : Addr} {xs : List V} (I : Inv X pins σ H s) (h : SqX c X.K H a xs) : ∃ its, Vals xs its ∧ Rw c s.heap a its.toArray ∧ a < s.heap.objs.size := by
  cases c
  · obtain ⟨its, r, q, _⟩ := I.list h
    exact ⟨its, r, q.isList, q.lt⟩
  · obtain ⟨its, r, q, _⟩ := I.tuple h
    obtain ⟨o, ho, _⟩ := id q
    exact ⟨its, r, q, Heap.lt_size ho⟩
theorem SqX.inj {c : Bool} {X : Cx} {pins : List (Addr × PySem.Obj)} {σ : L2.St} {H : Hp} {s : Shared} {a : Addr} {xs ys : List V} (I : Inv X pins σ H s) (h : SqX c X.K H a xs) (k : SqX c X.K H a ys) : xs = ys := by
  cases c
  · exact I.list_inj h k
  · exact I.tuple_inj h k
end Zm
set_option Elab.async false
set_option maxRecDepth 100000
set_option maxHeartbeats 4000000
set_option linter.all false
set_option autoImplicit false
/-! TW38: walks of a tuple and a list at once, as sayings -/
namespace TW
open Pa (rep)
open PaL (repL)
open PySem PySem.Spec PyProof.Rows L2 My
section
variable {α β : Type} {Γ : Cxt} {δ : List Sl} {ta tb : TE}
/-! ### a property that both kinds have -/
end
end TW
set_option Elab.async false
set_option maxRecDepth 100000
set_option maxHeartbeats 4000000
set_option linter.all false
set_option autoImplicit false
/-! TW39: comprehensions that gather into a set: any kind of set, by what one more thing makes of it -/
namespace Co
open PySem PySem.Spec PyProof.Rows L2
open PySem.Sem (wp)
/-- a turn is over: the block's names forgotten, the walker as it stood -/
theorem back {B : Cx} {P : Program} {w : World} {K : PySem.W.Frag} {tg : Expr} {J : It} {fp : List Addr} {it : Addr} {tn : Nat → Heap → Prop} (T : Turn P w K tg J fp it tn) {i : Nat} {h : Heap} {σ τ : L2.St} {H : Hp} {s : Shared} {vs : List Nat}
    (I : Inv B ([] ++ pinsAt fp h) τ H s) (st : tn i h) (e : wipe τ vs = wipe σ vs) : Inv B [] (wipe σ vs) H s ∧ tn i s.heap ∧ ∀ b ∈ fp, H b = none := by
  have held : ∀ b ∈ fp, ∀ o, h.get? b = some o → s.heap.get? b = some o ∧ H b = none := fun b hb o t => by
    have z := I.pin (b, o) (List.mem_append_right _ (List.mem_append_right _ (mem_pinsAt hb t)))
    exact ⟨z.1, z.2.1⟩
  refine ⟨(I.unpinned (pins := [])).weak (by rw [← e, wipe_length]) fun j v t => ?_, T.keep _ _ _ st fun b hb o t => (held b hb o t).1, fun b hb => ?_⟩
  · rw [← e] at t
    exact (wipe_some t).1
  · obtain ⟨o, t, _⟩ := T.obj _ _ st b hb
    exact (held b hb o t).2
/-- the kinds of set: what stands there, how it begins, what one more thing makes of it -/
structure Col (P : Program) (w : World) (α : Type) where
  at_ : Addr → α → HO
  zero : α
  more : α → V → α → Prop
  new : ∀ (h : Heap) (H : Hp), ObjOk P w H (h.push { cls := .type "set", dict := none, data := .set #[] 0 (.fresh 0 0 (!w.params.followText "set-order")) }) h.objs.size (at_ h.objs.size zero)
  add : ∀ (Y : Cx), Y.prog = P → Y.w = w → ∀ {pins : List (Addr × Obj)} {σ : L2.St} {H : Hp} {s : Shared} {E : Value → Shared → Prop} {Q : Value → Shared → Prop} {D : Addr} {a a' : α} {y : V} {u : Value},
    Inv Y pins σ H s → H D = some (at_ D a) → more a y a' → RelV y u → (∀ s', Inv Y pins σ (upd H D (at_ D a')) s' → Q .none s') → wpAny (model Y.prog Y.w) Y.A (call (.builtin "set.add") [.ref D, u]) Q E s
variable {X : Cx} {α : Type}
/-- the block's loop -/
theorem walk (c : Col X.prog X.w α) {B : Cx} (eP : B.prog = X.prog) (ew : B.w = X.w) (hc : B.calm = true) (ex : B.xe = fun _ _ => False) {elt tg iter : Expr} {ifs : List Expr} {scope : Scope} {pos : Pos} {g : TG} {tt : TT} {te : TE} {R : Result → Shared → Prop}
    {J : It} {fp : List Addr} {it D : Addr} {tn : Nat → Heap → Prop} {W : Nat → Nat → Hp → Prop} {Z : Hp → Prop} {vs : List Nat} {σ : L2.St} (T : Turn B.prog B.w B.K tg J fp it tn) (pg : PG B tg g) (pt : PTs B ifs tt) (pe : PE B elt te)
    (own : ∀ H s τ, Inv B [] τ H s → (∀ b ∈ fp, H b = none) → ∀ b ∈ fp, FpOk B [] H b)
    (turn : ∀ i m H, W i m H → (J.stop i H ∧ Z H) ∨ (J.go i H ∧ ∃ On : Hp → Prop, (∀ H', On H' → ∃ m', m' < m ∧ W (i + 1) m' H') ∧ ∀ x H', J.yld i H x H' → g x (wipe σ vs) H' fun τ H2 => wipe τ vs = wipe σ vs ∧
      tt τ H2 fun b H3 => if b = true then te τ H3 fun y H4 => ∃ a a', H4 D = some (c.at_ D a) ∧ c.more a y a' ∧ On (upd H4 D (c.at_ D a')) else On H3))
    (stop : ∀ H s, Inv B [] (wipe σ vs) H s → Z H → R (.ok .next) s) {m : Nat} {H : Hp} {s : Shared} (I : Inv B [] (wipe σ vs) H s) (st : tn 0 s.heap) (nf : ∀ b ∈ fp, H b = none) (w : W 0 m H) :
    codeAny (model B.prog B.w) B.A (.compLoop (.SetComp elt [⟨tg, iter, ifs, 0⟩] scope pos) 0 (.ref it) (.ref D) B.env) R s := by
  refine PpSet.compLoopS_any (fun n s => ∃ i H, Inv B [] (wipe σ vs) H s ∧ tn i s.heap ∧ (∀ b ∈ fp, H b = none) ∧ W i n H) (fun n s1 ⟨i, H1, I1, st1, nf1, w1⟩ => ?_) m ⟨0, H, I, st, nf, w⟩
  rcases turn i n H1 w1 with ⟨end_, z⟩ | ⟨go, On, less, step⟩
  · exact thnF (T.done B rfl rfl rfl hc i [] s1 _ H1 (fun _ _ => False) I1 (own _ _ _ I1 nf1) st1 end_) fun r s2 ⟨e, I2⟩ => by
      subst e
      exact stop _ _ I2 z
  · refine thnF (T.item B rfl rfl rfl hc i [] s1 _ H1 (fun _ _ => False) I1 (own _ _ _ I1 nf1) st1 go) fun r s2 ⟨u, e, h2⟩ => ?_
    subst e
    refine thnF h2 fun _ s3 ⟨x, H3, I3, rx, y3, st3, nf3⟩ => ?_
    have P3 := I3.pinned (own _ _ _ I3 nf3) (T.obj _ _ st3)
    have over : ∀ {τ : L2.St} {H' : Hp} {s' : Shared}, Inv B ([] ++ pinsAt fp s3.heap) τ H' s' → wipe τ vs = wipe σ vs → On H' → ∃ m', m' < n ∧ ∃ i H, Inv B [] (wipe σ vs) H s' ∧ tn i s'.heap ∧ (∀ b ∈ fp, H b = none) ∧ W i m' H := fun I' e o => by
      obtain ⟨m', lt, w'⟩ := less _ o
      obtain ⟨b1, b2, b3⟩ := back T I' st3 e
      exact ⟨m', lt, i + 1, _, b1, b2, b3, w'⟩
    have f1 := pg.run _ s3 _ H3 x u _ P3 rx (step x H3 y3)
    rw [ex] at f1
    refine thnF f1 fun _ s4 ⟨τ, H4, I4, e4, q4⟩ => ?_
    have f2 := pt.run _ s4 τ H4 _ I4 q4
    rw [ex] at f2
    refine thnF f2 fun b s5 ⟨H5, I5, q5⟩ => ?_
    cases b with
    | false =>
      simp only [Bool.false_eq_true, if_false] at q5 ⊢
      exact over I5 e4 q5
    | true =>
      simp only [if_true] at q5 ⊢
      have f3 := pe.run _ s5 τ H5 _ I5 q5
      rw [ex] at f3
      refine thnF f3 fun v s6 ⟨y, H6, I6, ry, a, a', hD, mo, on⟩ => ?_
      exact c.add B eP ew I6 hD mo ry fun s7 I7 => over I7 e4 on
/-- sets of whole numbers -/
def colI (P : Program) (w : World) : Col P w ((Int → Bool) × Nat) where
  at_ := fun D a => SetO w D a.1 a.2
  zero := (fun _ => false, 0)
  more := fun a y a' => ∃ k, y = .int k ∧ a.2 + 1 < scanBound ∧ a' = (fun j => a.1 j || decide (j = k), if a.1 k = true then a.2 else a.2 + 1)
  new := fun h H => setO_new (setR_fresh w)
  add := fun Y eP ew {pins σ H s E Q D a a' y u} I hD ⟨k, ey, room, ea⟩ ru q => by
    cases eP
    cases ew
    cases ey
    cases ea
    obtain ⟨tk, rfl⟩ := ru
    refine setR_add (setO_get I hD) room fun h' sb R => q _ (I.write (e := D) (t' := s.toks + 1) (by rw [hD]; trivial) (.inl rfl) (fun b o hb t => (sb.2 b hb).trans t) ?_ (setO_new R))
    obtain ⟨o, _, _, _, t, _⟩ := R
    exact ⟨o, t⟩
/-! ### set(xs) of a list -/
section
variable {P : Program} {w : World} {A : Around} {E : Value → Shared → Prop} {s : Shared}
end
end Co
namespace TW
open Pa (rep)
open PaL (repL)
open PySem PySem.Spec PyProof.Rows L2 My
variable {Γ : Cxt} {δ : List Sl} {α : Type}
end TW
set_option Elab.async false
set_option maxRecDepth 100000
set_option maxHeartbeats 4000000
set_option linter.all false
set_option autoImplicit false
/-! TW40: a, b = x, [..] where b is changed later and a block holds a name -/
namespace TW
open Pa (rep)
open PaL (repL)
open PySem PySem.Spec PyProof.Rows L2 My
section
variable {Γ : Cxt} {ta tb : TE} {δ : List Sl} {α β γ L : Type} {ΔL : L → List Sl}
/-! ### tuples of any length, of any kinds -/
structure TH (τ : Type) where
  l : τ
instance {τ : Type} [PyL τ] : Py (TH τ) where
  rep := fun G A H v t => ∃ p vs, v = .ref p ∧ AtT G A H p vs ∧ repL G A H vs t.l
  st := fun ⟨p, vs, e, h, k⟩ d s => ⟨p, vs, e, h.mv (s.mv d), PaL.stL k d s⟩
  mv := fun ⟨p, vs, e, h, k⟩ s => ⟨p, vs, e, h.mv s, PyL.mvL k s⟩
instance {τ : Type} [PyL τ] : NN (TH τ) := ⟨fun ⟨p, vs, h, _⟩ e => by rw [h] at e; cases e⟩
end
end TW
set_option Elab.async false
set_option maxRecDepth 100000
set_option maxHeartbeats 4000000
set_option linter.all false
set_option autoImplicit false
/-! TW41: letters of texts, texts joined, an instance with keywords -/
namespace TW
open Pa (rep)
open PaL (repL)
open PySem PySem.Spec PyProof.Rows L2 My
section
variable {Γ : Cxt} {ta tb te : TE} {tl tk : TA} {δ : List Sl} {α β γ τ υ ω : Type}
end
/-! ### min(t), max(t) of a tuple of whole numbers -/
open PySem.W (minOf HoldAll min_tuple_datum DatumOrd)
end TW
set_option Elab.async false
set_option maxRecDepth 100000
set_option maxHeartbeats 4000000
namespace My
open PySem PySem.Spec PyProof.Rows L2 GQ
/-! ### xs != [], whatever the items are -/
end My
set_option Elab.async false
set_option maxRecDepth 100000
set_option maxHeartbeats 4000000
set_option linter.all false
set_option autoImplicit false
/-! TW42: a choice of new lists; gcd -/
namespace TW
open Pa (rep)
open PaL (repL)
open PySem PySem.Spec PyProof.Rows L2 My
section
variable {Γ : Cxt} {ta tb te : TE} {t : TT} {δ : List Sl} {α : Type}
end
end TW
set_option Elab.async false
set_option maxRecDepth 100000
set_option maxHeartbeats 4000000
set_option linter.all false
set_option autoImplicit false
/-! TW43: calls that leave a default out -/
namespace TW
open Pa (rep)
open PaL (repL)
open PySem PySem.Spec PyProof.Rows L2 My
section
variable {X : Cx} {CX : CXT} {k : Nat} {f C : Addr} {fd : FuncData} {ps : List Str} {sp : Sp} {E : XK} {x : Str} {p pos : Pos} {e : Expr} {es : List Expr} {t : TA} {dvs : List V}
end
section
variable {Γ : Cxt} {tl : TA} {δ : List Sl} {α β τ υ ω : Type}
end
end TW
set_option Elab.async false
set_option maxRecDepth 100000
set_option maxHeartbeats 4000000
set_option linter.all false
set_option autoImplicit false
/-! TW44: a list or a tuple -/
namespace TW
open Pa (rep)
open PaL (repL)
open PySem PySem.Spec PyProof.Rows L2 My
def Sm2.l {α : Type} : Sm2 (List α) (Tup α) → List α
  | .a x => x
  | .b x => x.l
section
variable {α β γ ε ζ η : Type}
variable {Γ : Cxt} {te : TE} {δ : List Sl}
theorem ef_listE [Py α] {m : W (Sm2 (List α) (Tup α))} (h : EvT Γ te δ m) : EvF Γ (tCB (rLstOf Γ.G.K) (tCons te tNil)) δ (m >>= fun b => pure b.l) := fun σ A H Q I q => by
  refine h σ A H _ I (m.mono (fun b z u A1 H1 s w => ?_) (fun _ y => y) q)
  cases b with
  | a x =>
    obtain ⟨p, vs, rfl, hs, k⟩ := w
    exact ⟨p, vs, rfl, .inl hs.sq, fun l n => fresh_lst s k n z⟩
  | b x =>
    obtain ⟨p, vs, rfl, hs, k⟩ := w
    exact ⟨p, vs, rfl, .inr hs.sq, fun l n => fresh_lst s k n z⟩
theorem cv_tupE [Py α] : CaV Γ (rTupOf Γ.G.K) (fun (t : Cn (Sm2 (List α) (Tup α)) Nl) => (pure ⟨t.a.l⟩ : W (Tup α))) := fun xs A H Q t d h z => cv1 h fun v e w => by
  obtain ⟨s, u⟩ := t
  cases s with
  | a x =>
    obtain ⟨p, vs, rfl, hs, k⟩ := w
    exact ⟨p, vs, e, .inl ⟨hs.sq, fun l n => z _ A _ (St.new d n) (tup_new d k n)⟩⟩
  | b x =>
    obtain ⟨p, vs, e1, hs, k⟩ := id w
    subst e1
    exact ⟨p, vs, e, .inr ⟨hs.sq, z _ A H (St.refl d) w⟩⟩
theorem cv_lenE [Py α] : CaV Γ (rLenQ Γ.G.K) (fun (t : Cn (Sm2 (List α) (Tup α)) Nl) => (pure (t.a.l.length : Int) : W Int)) := fun xs A H Q t d h z => cv1 h fun v e w => by
  obtain ⟨s, u⟩ := t
  cases s with
  | a x =>
    obtain ⟨p, vs, rfl, hs, k⟩ := w
    exact ⟨p, vs, e, .inl hs.sq, z _ A H (St.refl d) (show V.int _ = V.int _ by rw [k.len]; rfl)⟩
  | b x =>
    obtain ⟨p, vs, rfl, hs, k⟩ := w
    exact ⟨p, vs, e, .inr hs.sq, z _ A H (St.refl d) (show V.int _ = V.int _ by rw [k.len]; rfl)⟩
variable {ta tb tc : TE} {S L ρ : Type} {ΔL : L → List Sl}
end
/-! ### all(xs) of whole numbers -/
/-! ### the least of three -/
/-! ### a star def in a try's body -/
end TW
set_option Elab.async false
set_option maxRecDepth 100000
set_option maxHeartbeats 4000000
set_option linter.all false
set_option autoImplicit false
/-! TW45: walks over a list of our own in a comprehension; nested calls in a try's body -/
namespace TW
open Pa (rep)
open PaL (repL)
open PySem PySem.Spec PyProof.Rows L2 My
structure ItOkS {α : Type} (Γ : Cxt) (J : It) (g : TG) (xs : List α) (bd : α → List Sl → List Sl) (js : List Nat) (n : Nat) (A1 : Av) (H1 : Hp) : Prop where
  stop : ∀ A H, TW.St Γ.A0 Γ.H0 A H → TW.St A1 H1 A H → J.stop xs.length H
  turn : ∀ (i : Nat) (a : α), xs[i]? = some a → ∀ A H, TW.St Γ.A0 Γ.H0 A H → TW.St A1 H1 A H → J.go i H ∧ ∀ x H', J.yld i H x H' → ∀ σ δ, δ.length = n → Iv Γ A H σ δ → ∀ Q : L2.St → Hp → Prop,
    (∀ (l : List (Nat × V)) A' H'', l.map (·.1) = js → TW.St A H A' H'' → Iv Γ A' H'' (sets σ l) (bd a δ) → Q (sets σ l) H'') → g x σ H' Q
def EvIS {α : Type} (Γ : Cxt) (wi : TI) (g : TG) (δ : List Sl) (m : W (List α)) (bd : α → List Sl → List Sl) (js : List Nat) : Prop := ∀ σ A H (R : It → Hp → Prop), Iv Γ A H σ δ →
  m.run (fun xs => ∀ J A' H', TW.St A H A' H' → ItOkS Γ J g xs bd js δ.length A' H' → R J H') Γ.Er → wi σ H R
def LaterS {α : Type} [Py α] (Γ : Cxt) (A1 : Av) (H1 : Hp) (p : Addr) (vs : List V) (xs : List α) : Prop := ∀ A H, TW.St Γ.A0 Γ.H0 A H → TW.St A1 H1 A H → SqL Γ.G.K H p vs ∧ All2 (rep Γ.G A H) vs xs
def EvSS {α : Type} [Py α] (Γ : Cxt) (te : TE) (δ : List Sl) (m : W (List α)) : Prop := ∀ σ A H Q, Iv Γ A H σ δ → m.run (fun xs => ∀ p vs A' H', TW.St A H A' H' → LaterS Γ A' H' p vs xs → Q (.ref p) H') Γ.Er → te σ H Q
section
variable {Γ : Cxt} {te : TE} {δ : List Sl} {α β γ : Type}
theorem ess_mu [Py α] {i : Nat} {xs : List α} (h : δ[i]? = some (.mu α xs) := by rfl) : EvSS Γ (tVar i) δ (pure xs) := fun σ A H Q I q => by
  obtain ⟨o, e, p, ho, rfl, hm, b, n, hh, vs, rfl, k⟩ := I.at_ _ _ h
  exact ⟨_, e, q p vs A H (St.refl I.dom) fun A2 H2 _ s => ⟨.inl (.inl (s.k p _ b hh)), k.imp fun _ _ r => Pa.st r I.dom s⟩⟩
theorem ei_listS [Py α] {g : TG} {bd : α → List Sl → List Sl} {js : List Nat} {m : W (List α)} (h : EvSS Γ te δ m) (hg : EvG Γ g bd js δ.length) : EvIS Γ (iList Γ.G.K te) g δ m bd js := fun σ A H R I q => by
  refine h σ A H _ I (m.mono (fun xs z p vs A1 H1 s1 k => ?_) (fun _ y => y) q)
  have k1 := k A1 H1 (I.st.trans s1) (St.refl s1.d)
  refine ⟨p, rfl, ⟨vs, k1.1⟩, z _ A1 H1 s1 ⟨fun A2 H2 st s => ?_, fun i a e A2 H2 st s => ?_⟩⟩
  · obtain ⟨h1, h2⟩ := k A2 H2 st s
    exact ⟨vs, h1, Nat.le_of_eq h2.len⟩
  · obtain ⟨h1, h2⟩ := k A2 H2 st s
    obtain ⟨v, e1, r⟩ := h2.get i e
    refine ⟨⟨vs, v, h1, e1⟩, fun x H' ⟨eH, y⟩ σ2 δ2 hn I2 Q z => ?_⟩
    subst eH
    have y1 := y vs h1
    rw [e1] at y1
    cases y1
    exact hg.2 _ a A2 H' σ2 δ2 hn I2 r Q fun l el I3 => z l A2 H' el (St.refl I2.dom) I3
theorem ef_compS [Py β] {wi : TI} {g : TG} {tt : TT} {m : W (List α)} {bd : α → List Sl → List Sl} {js : List Nat} {t : α → W Bool} {e : α → W β} (hi : EvIS Γ wi g δ m bd js) (ht : ∀ a, EvB Γ.q tt (bd a (wipeS δ js)) (t a)) (he : ∀ a, EvT Γ.q te (bd a (wipeS δ js)) (e a)) :
    EvF Γ (tLc wi g tt te js) δ (m >>= fun xs => W.need (xs.length ≤ sizeLine) >>= fun _ => compW t e xs) := fun σ A H Q I q => by
  refine hi σ A H _ I (m.mono (fun xs q J A1 H1 s1 ok => ?_) (fun _ h => h) q)
  obtain ⟨hz, q⟩ := q
  intro D nD
  have s2 : TW.St A1 H1 (A1.add D) (upd H1 D (.lst [])) := St.newM s1.d nD
  refine ⟨fun i k H => k + i = xs.length ∧ ∃ A vs acc, TW.St A1 H1 A H ∧ A.M D ∧ ¬ A.B D ∧ H D = some (.lst vs) ∧ All2 (rep Γ.G A H) vs acc ∧ acc.length ≤ i ∧
      (compW t e (xs.drop i)).run (fun r => ∀ vs A' H', A'.M D → ¬ A'.B D → TW.St A1 H1 A' H' → H' D = some (.lst vs) → All2 (rep Γ.G A' H') vs (acc ++ r) → Q (.ref D) H') Γ.Er,
    ⟨xs.length, rfl, A1.add D, [], [], s2, .inr rfl, fun b => s1.d.nm nD (s1.d.s D b), upd_same, .nil, Nat.le_refl _, ?_⟩, ?_⟩
  · refine (compW t e xs).mono (fun r q vs A' H' hm hb st h k => ?_) (fun _ h => h) q
    exact q D vs A' H' (s1.none nD) hm hb (s1.trans st) h k
  rintro i k H2 ⟨hk, A2, vs, acc, st2, hM, hB, hD, ka, hl, q2⟩
  have I2 : Iv Γ A2 H2 σ δ := (I.step s1).step st2
  by_cases hi : i < xs.length
  · obtain ⟨go, tn⟩ := ok.turn i xs[i] (List.getElem?_eq_getElem hi) A2 H2 I2.st st2
    rw [List.drop_eq_getElem_cons hi] at q2
    refine .inr ⟨go, fun H3 => ∃ A vs acc, TW.St A1 H1 A H3 ∧ A.M D ∧ ¬ A.B D ∧ H3 D = some (.lst vs) ∧ All2 (rep Γ.G A H3) vs acc ∧ acc.length ≤ i + 1 ∧
      (compW t e (xs.drop (i + 1))).run (fun r => ∀ vs A' H', A'.M D → ¬ A'.B D → TW.St A1 H1 A' H' → H' D = some (.lst vs) → All2 (rep Γ.G A' H') vs (acc ++ r) → Q (.ref D) H') Γ.Er,
      fun H3 ⟨A3, vs3, acc3, a, b, c, d, e3, f, g3⟩ => ⟨k - 1, by omega, by omega, A3, vs3, acc3, a, b, c, d, e3, f, g3⟩, fun x H' y => ?_⟩
    refine tn x H' y _ (wipeS δ js) (wipeS_len δ js) (I2.wipe js) _ fun l A3 H3 el s3 I3 => ⟨wipe_idem σ js l el, ?_⟩
    refine ht xs[i] _ A3 H3 _ I3.q ((t xs[i]).mono (fun b q A4 H4 s4 => ?_) (fun _ h => h) q2)
    have s34 := s3.trans s4
    cases b with
    | false =>
      refine iteF ⟨A4, vs, acc, st2.trans s34, s34.ms D hM, fun z => (s34.nb D z).elim hB (fun y => by rw [y] at hD; cases hD), s34.k D _ hB hD, ka.imp fun _ _ r => Pa.st r st2.d s34, by omega, by simpa using q⟩
    | true =>
      refine iteT (he xs[i] _ A4 H4 _ (I3.q.step s4) ((e xs[i]).mono (fun y q v A5 H5 s5 r5 => ?_) (fun _ h => h) (by simpa [Cxt.q] using q)))
      have s35 := s34.trans s5
      have hD5 := s35.k D _ hB hD
      have hB5 : ¬ A5.B D := fun z => (s35.nb D z).elim hB fun y => by rw [y] at hD; cases hD
      have hM5 := s35.ms D hM
      have mv : Mv A5 H5 A5 (upd H5 D (.lst (vs ++ [v]))) := Mv.chg s5.d hM5 hB5
      refine ⟨vs, hD5, by rw [ka.len]; omega, A5, vs ++ [v], acc ++ [y], (st2.trans s35).chg nD hM5 hB5, hM5, hB5, upd_same, ((ka.imp fun _ _ r => Py.mv (Pa.st r st2.d s35) mv)).app (.cons (Py.mv r5 mv) .nil), by simp; omega, ?_⟩
      refine (compW t e (xs.drop (i + 1))).mono (fun r q => ?_) (fun _ h => h) q
      simpa using q
  · have ei : i = xs.length := by omega
    subst ei
    rw [List.drop_length] at q2
    refine .inl ⟨ok.stop A2 H2 I2.st st2, ?_⟩
    exact q2 vs A2 H2 hM hB st2 hD (by simpa using ka)
end
/-! ### arguments at slots -/
section
variable {Γ : Cxt} {σ : L2.St} {te ta : TE} {tl : TA} {δ : List Sl} {α β τ υ ω : Type} {ES : L2.St → XK}
end
end TW
set_option Elab.async false
set_option maxRecDepth 100000
set_option maxHeartbeats 4000000
set_option linter.all false
set_option autoImplicit false
/-! TW46: defs of several statements that give a new list -/
namespace TW
open Pa (rep)
open PaL (repL)
open PySem PySem.Spec PyProof.Rows L2 My
structure Fr (α : Type) where
  l : List α
@[reducible] def paF {α : Type} [Py α] (H0 : Hp) : Pa (Fr α) where
  rep := fun G A H v r => ∃ p vs, v = .ref p ∧ A.M p ∧ ¬ A.B p ∧ H0 p = none ∧ H p = some (.lst vs) ∧ All2 (rep G A H) vs r.l
  st := fun ⟨p, vs, e, m, b, n, h, k⟩ d s => ⟨p, vs, e, s.ms p m, fun z => (s.nb p z).elim b (fun y => by rw [h] at y; cases y), n, s.k p _ b h, k.imp fun _ _ r => Pa.st r d s⟩
section
variable {Γ : Cxt} {te : TE} {δ : List Sl} {S L α : Type} {Δ : S → List Sl} {ΔL : L → List Sl}
end
/-! ### xs != [] of a list that is kept -/
end TW
set_option Elab.async false
set_option maxRecDepth 100000
set_option maxHeartbeats 4000000
set_option linter.all false
set_option autoImplicit false
/-! TW47: what is never reached, whatever it is -/
namespace TW
open Pa (rep)
open PaL (repL)
open PySem PySem.Spec PyProof.Rows L2 My
end TW
set_option Elab.async false
set_option maxRecDepth 100000
set_option maxHeartbeats 4000000
set_option linter.all false
set_option autoImplicit false
/-! TW48: `in` of a list or a tuple -/
namespace TW
open Pa (rep)
open PaL (repL)
open PySem PySem.Spec PyProof.Rows L2 My
variable {Γ : Cxt} {α β : Type}
end TW
set_option Elab.async false
set_option maxRecDepth 100000
set_option maxHeartbeats 4000000
set_option linter.all false
set_option autoImplicit false
/-! TW49: data of one of two kinds -/
namespace TW
open Pa (rep)
open PaL (repL)
open PySem PySem.Spec PyProof.Rows L2 My
instance {α β : Type} [Py α] [Py β] [Dt α] [Dt β] : Dt (Sm2 α β) := ⟨fun s => match s with | .a x => Dt.d x | .b y => Dt.d y, fun {G A H v s} h => by
  cases s with
  | a x => exact Dt.ok h
  | b y => exact Dt.ok h⟩
instance {α : Type} [Py α] [Dt α] [Dn α] : Dn (Sm2 (Tup α) Int) where
  dep := Dn.dep (Tup α)
  lay s := by
    cases s with
    | a x => exact Dn.lay x
    | b y => exact ⟨rfl, Nat.zero_le _⟩
  eq a b := by
    cases a with
    | a x =>
      cases b with
      | a y => exact (Dn.eq x y).trans ⟨fun e => by rw [e], fun e => by cases e; rfl⟩
      | b y => exact Iff.intro (fun z => by cases (show false = true from z)) (fun z => by cases z)
    | b x =>
      cases b with
      | a y => exact Iff.intro (fun z => by cases (show false = true from z)) (fun z => by cases z)
      | b y => exact (Dn.eq x y).trans ⟨fun e => by rw [e], fun e => by cases e; rfl⟩
end TW
set_option Elab.async false
set_option maxRecDepth 100000
set_option maxHeartbeats 4000000
set_option linter.all false
set_option autoImplicit false
/-! TW50: def f(a, .., *v, k = c) called with k -/
namespace TW
open Pa (rep)
open PaL (repL)
open PySem PySem.Spec PyProof.Rows L2 My
section
variable {Γ : Cxt} {δ : List Sl} {α β τ τ2 κ : Type}
/-- arguments and k as given, and as they are bound -/
structure StcQ (τ α κ τ2 : Type) [PaL τ] [Py α] [Pa κ] [PaL τ2] where
  n : Nat
  cv : τ → κ → τ2
  ok : ∀ {G A H vs} {t : τ}, repL G A H vs t → ∃ (ws rest : List V), vs = ws ++ rest ∧ ws.length = n ∧ rest.length + n = PaL.n τ ∧ ∀ (A' : Av) (H' : Hp) (p : Addr) (z : V) (u : κ), Dom A H → TW.St A H A' H' → ¬ A'.M p → H' p = some (.tup rest) → rep G A' H' z u → repL G A' H' (ws ++ [z, V.ref p]) (cv t u)
end
end TW
set_option Elab.async false
set_option maxRecDepth 100000
set_option maxHeartbeats 4000000
set_option linter.all false
set_option autoImplicit false
/-! TW51: a tuple times a number -/
namespace TW
open Pa (rep)
open PaL (repL)
open PySem PySem.Spec PyProof.Rows L2 My
variable {Γ : Cxt} {α : Type}
end TW
set_option Elab.async false
set_option maxRecDepth 100000
set_option maxHeartbeats 4000000
set_option linter.all false
set_option autoImplicit false
/-! TW52: ys.append(xs.pop(k)), lists of numbers of our own -/
namespace TW
open Pa (rep)
open PaL (repL)
open PySem PySem.Spec PyProof.Rows L2 My
theorem seqIx_nat {k : Int} {n : Nat} (h0 : 0 ≤ k) (h1 : k < n) : seqIndex? k n = some k.toNat := by
  have : ¬ k < 0 := by omega
  unfold seqIndex?
  simp [h0, h1, this]
theorem All2.eraseIdx {α : Type} {R : V → α → Prop} {vs : List V} {xs : List α} (k : All2 R vs xs) : ∀ n : Nat, All2 R (vs.eraseIdx n) (xs.eraseIdx n) := by
  induction k with
  | nil => exact fun n => by simpa using All2.nil
  | cons r k ih =>
    intro n
    cases n with
    | zero => exact k
    | succ n => exact .cons r (ih n)
variable {Γ : Cxt} {δ : List Sl} {β L : Type} {ΔL : L → List Sl} {ti : TE}
theorem st_appPop [Pa β] {i j : Nat} {ys xs : List Int} {mi : W Int} (hk : EvT Γ ti δ mi) (h : δ[i]? = some (.mu Int ys) := by rfl) (h2 : δ[j]? = some (.mu Int xs) := by rfl) (hij : j ≠ i := by decide) :
    StT (β := β) (L := L) Γ (tDrop (tBM Γ.G.K "list" rAppend (tVar i) (tCons (tBM Γ.G.K "list" rPopAt (tVar j) (tCons ti tNil)) tNil))) δ (mi >>= fun k => W.need (0 ≤ k ∧ k < xs.length ∧ k < 2 ^ 63) >>= fun _ => W.need (ys.length < sizeLine) >>= fun _ => pure (.nx (T2.mk (ys ++ [xs.getD k.toNat 0]) (xs.eraseIdx k.toNat)))) (fun t => (δ.set j (.mu Int t.b)).set i (.mu Int t.a)) ΔL := fun σ A H D I q => by
  obtain ⟨o, e, p, ho, rfl, hm, b, n, hh, vs, rfl, k⟩ := I.at_ _ _ h
  obtain ⟨o2, e2, p2, ho2, rfl, hm2, b2, n2, hh2, vs2, rfl, k2⟩ := I.at_ _ _ h2
  refine ⟨_, e, .inl ⟨rfl, vs, .inl (.inl hh)⟩, ?_⟩
  refine ⟨_, e2, .inl ⟨rfl, vs2, .inl (.inl hh2)⟩, ?_⟩
  refine hk σ A H _ I (mi.mono (fun a q v A' H' s r => ?_) (fun _ h => h) q)
  obtain ⟨⟨k0, k1, k63⟩, hz, q⟩ := q
  have hh2' := s.k p2 _ b2 hh2
  have k2' := k2.imp fun _ _ r => Pa.st r I.dom s
  have kl : vs2.length = xs.length := k2.len
  have lt : a.toNat < xs.length := by omega
  have gx : vs2[a.toNat]? = some (V.int (xs.getD a.toNat 0)) := by
    obtain ⟨v', e1, r1⟩ := k2.get a.toNat (List.getElem?_eq_getElem lt)
    rw [e1, List.getD_eq_getElem?_getD, List.getElem?_eq_getElem lt]
    exact congrArg some r1
  obtain ⟨mv, I'⟩ := (I.step s).chg (s' := .mu Int (xs.eraseIdx a.toNat)) (u := .lst (vs2.eraseIdx a.toNat)) h2 rfl (fun _ _ _ _ _ h => h) e2 ⟨_, rfl, k2'.eraseIdx _⟩
  have hi' : (δ.set j (.mu Int (xs.eraseIdx a.toNat)))[i]? = some (.mu Int ys) := by rw [List.getElem?_set_ne hij]; exact h
  obtain ⟨o3, e3, p3, ho3, rfl, hm3, b3, n3, hh3, vs3, rfl, k3⟩ := I'.at_ _ _ hi'
  rw [e] at e3
  cases e3
  refine ⟨p2, vs2, a, a.toNat, V.int (xs.getD a.toNat 0), rfl, by rw [show v = V.int a from r], hh2', by omega, k63, by rw [kl]; exact seqIx_nat k0 (by omega), gx, p, vs3, _, rfl, rfl, hh3, by rw [k3.len]; exact hz, ?_⟩
  obtain ⟨mv2, I2⟩ := I'.chg (s' := .mu Int (ys ++ [xs.getD a.toNat 0])) (u := .lst (vs3 ++ [V.int (xs.getD a.toNat 0)])) hi' rfl (fun _ _ _ _ _ h => h) e ⟨_, rfl, k3.app (.cons rfl .nil)⟩
  exact q σ _ _ (((I.stepMv s).trans mv).trans mv2) I2
end TW
set_option Elab.async false
set_option maxRecDepth 100000
set_option maxHeartbeats 4000000
set_option linter.all false
set_option autoImplicit false
/-! TW53: != of instances of one class with its own == -/
namespace TW
open Pa (rep)
open PaL (repL)
open PySem PySem.Spec PyProof.Rows L2 My
open PySem.W (InstAt ifBound_K looks_findIn looks_mroIn findIn mroIn isFn check_slot)
section
variable {prog : Program} {w : World} {A : Around} {E : Value → Shared → Prop} {s : Shared} {K : PySem.W.Frag} {x y C f : Addr} {ox oy : PySem.Obj} {od oe : Option PySem.Obj}
end
/-- the class has == of its own, and its != is the usual one -/
structure OwnNe (K : PySem.W.Frag) (C : Addr) : Prop where
  ne : findIn K (.ref C) "__ne__" = some (some (.builtin "object.__ne__"))
  ob : mroIn K C (.type "object") = some true
section
variable {Γ : Cxt} {δ : List Sl} {α : Type} {to ti : TE}
end
end TW
set_option Elab.async false
set_option maxRecDepth 100000
set_option maxHeartbeats 4000000
set_option linter.all false
set_option autoImplicit false
/-! TW54: a list is never None -/
namespace TW
open Pa (rep)
open PaL (repL)
open PySem PySem.Spec PyProof.Rows L2 My
variable {Γ : Cxt} {δ : List Sl} {α : Type} {ta : TE}
end TW
set_option Elab.async false
set_option maxRecDepth 100000
set_option maxHeartbeats 4000000
set_option linter.all false
set_option autoImplicit false
/-! TW55: xs.extend(new list) -/
namespace TW
open Pa (rep)
open PaL (repL)
open PySem PySem.Spec PyProof.Rows L2 My
variable {Γ : Cxt} {δ : List Sl} {α β L : Type} {te : TE} {ΔL : L → List Sl}
end TW
set_option Elab.async false
set_option maxRecDepth 100000
set_option maxHeartbeats 4000000
set_option linter.all false
set_option autoImplicit false
/-! TW56: sorted(t), max(t) of a tuple of whole numbers -/
namespace TW
open Pa (rep)
open PaL (repL)
open PySem PySem.Spec PyProof.Rows L2 My
open PySem.W (maxOf HoldAll max_tuple_datum DatumOrd)
end TW
set_option Elab.async false
set_option maxRecDepth 100000
set_option maxHeartbeats 4000000
set_option linter.all false
set_option autoImplicit false
/-! TW57: tuples joined in a comprehension -/
namespace TW
open Pa (rep)
open PaL (repL)
open PySem PySem.Spec PyProof.Rows L2 My
theorem op_catAK {X : Cx} {K : PySem.W.Frag} (h : X.K = K) : OpR X (binaryOp .Add) (rCatA K) := by subst h; exact op_catA
end TW
set_option Elab.async false
set_option maxRecDepth 100000
set_option maxHeartbeats 4000000
set_option linter.all false
set_option autoImplicit false
/-! TW58: comprehensions with two fors, into a set -/
namespace Co
open PySem PySem.Spec PyProof.Rows L2
open PySem.Sem (wp)
/-- one lap of a clause: the next thing, its target, its tests -/
def Lap (P : Program) (w : World) (A : Around) (env : Env) (it : Value) (tg : Expr) (ifs : List Expr) (F : Value → Shared → Prop) (stop yes no : Shared → Prop) (s : Shared) : Prop :=
  wpAny (model P w) A (pyNext it) (fun r a => match r with
    | none => stop a
    | some v => wpAny (model P w) A (letOwnedTupleGo tg it v) (fun _ b => wpAny (model P w) A (assign tg env v) (fun _ c =>
        wpAny (model P w) A (forIn ifs true fun f r => if r = true then do let ok ← isTrue f env (eval f env); pure (ForInStep.yield ok) else pure (ForInStep.yield r)) (fun ok d => if ok = true then yes d else no d) F c) F b) F a) F s
section
variable {P : Program} {w : World} {A : Around} {R : Result → Shared → Prop} {s : Shared} {elt t0 i0 t1 i1 : Expr} {f0 f1 : List Expr} {sc : Scope} {pos : Pos} {it acc : Value} {env : Env}
abbrev sc2 (elt t0 i0 t1 i1 : Expr) (f0 f1 : List Expr) (sc : Scope) (pos : Pos) : Expr := .SetComp elt [⟨t0, i0, f0, 0⟩, ⟨t1, i1, f1, 0⟩] sc pos
theorem turn_out : compTurn (sc2 elt t0 i0 t1 i1 f0 f1 sc pos) 0 it acc env = (do
    standAt i0.pos
    match ← pyNext it with
    | none => pure (.done .next)
    | some v =>
      letOwnedTupleGo t0 it v
      assign t0 env v
      let mut ok := true
      for c in f0 do
        if ok then ok ← isTrue c env (eval c env)
      if ok then
        let x ← eval i1 env
        standAt i1.pos
        let x ← foldedSetIterable i1 env x
        let _ ← runOwn (.compStart (sc2 elt t0 i0 t1 i1 f0 f1 sc pos) 1 (← holding [x] (pyIter x)) acc env) env
      again (.compLoop (sc2 elt t0 i0 t1 i1 f0 f1 sc pos) 0 it acc env)) := by rfl
theorem turn_in : compTurn (sc2 elt t0 i0 t1 i1 f0 f1 sc pos) 1 it acc env = (do
    standAt i1.pos
    match ← pyNext it with
    | none => pure (.done .next)
    | some v =>
      letOwnedTupleGo t1 it v
      assign t1 env v
      let mut ok := true
      for c in f1 do
        if ok then ok ← isTrue c env (eval c env)
      if ok then
        (do let v ← eval elt env; standAt elt.pos; let _ ← call (.builtin "set.add") [acc, v])
      again (.compLoop (sc2 elt t0 i0 t1 i1 f0 f1 sc pos) 1 it acc env)) := by rfl
/-- the loop of the first clause -/
theorem loop_out (hs : ∀ x, foldedSetIterable i1 env x = pure x) (I : Nat → Shared → Prop)
    (lap : ∀ n s, I n s → Lap P w A env it t0 f0 (notedBy (model P w) A env fun e a => R (.error e) a) (fun a => R (.ok .next) a) (fun d => wpAny (model P w) A (eval i1 env) (fun x a => wpAny (model P w) A (pyIter x) (fun j b =>
        codeAny (model P w) A (.compStart (sc2 elt t0 i0 t1 i1 f0 f1 sc pos) 1 j acc env) (fun r c => match r with | .ok _ => ∃ m, m < n ∧ I m c | .error _ => False) b) (notedBy (model P w) A env fun e a => R (.error e) a) a) (notedBy (model P w) A env fun e a => R (.error e) a) d)
      (fun d => ∃ m, m < n ∧ I m d) s) (n : Nat) (h : I n s) : codeAny (model P w) A (.compLoop (sc2 elt t0 i0 t1 i1 f0 f1 sc pos) 0 it acc env) R s := by
  refine codeAny_loop rfl I (fun n s hI => ?_) n h
  show wpAny _ A (Sem.onRaise (compTurn (sc2 elt t0 i0 t1 i1 f0 f1 sc pos) 0 it acc env) fun x => do noteFrame x env; theTreesLotGoes x) _ _ s
  refine wpAny_noted ?_
  rw [turn_out]
  refine wpAny_bind (wpAny_standAt (wpAny_bind (wpAny_mono (lap n s hI) (fun r a k => ?_) fun _ _ z => z)))
  match r, k with
  | none, k => exact wpAny_pure k
  | some v, k =>
    refine wpAny_bind (wpAny_mono k (fun _ b k => wpAny_bind (wpAny_mono k (fun _ c k => wpAny_bind (wpAny_mono k (fun ok d k => ?_) fun _ _ z => z)) fun _ _ z => z)) fun _ _ z => z)
    match ok, k with
    | false, k => exact wpAny_pure ⟨rfl, k⟩
    | true, k =>
      refine wpAny_bind (wpAny_mono k (fun x a k => wpAny_bind (wpAny_standAt (wpAny_bind (wpAny_of_eq (hs x) (wpAny_bind (wpAny_holding (wpAny_mono k (fun j b k => ?_) fun _ _ z => z))))))) fun _ _ z => z)
      refine wpAny_bind (wpAny_runOwn ?_)
      rw [Around.mark_none]
      refine codeAny_mono k fun r c k => ?_
      match r, k with
      | .ok f, k => first | exact wpAny_pure ⟨rfl, k⟩ | exact wpAny_bind (wpAny_pure (wpAny_pure ⟨rfl, k⟩))
      | .error e, k => exact k.elim
/-- the loop of the second -/
theorem loop_in (I : Nat → Shared → Prop)
    (lap : ∀ n s, I n s → Lap P w A env it t1 f1 (notedBy (model P w) A env fun e a => R (.error e) a) (fun a => R (.ok .next) a) (fun d => wpAny (model P w) A (eval elt env) (fun x a => wpAny (model P w) A (call (.builtin "set.add") [acc, x]) (fun _ b => ∃ m, m < n ∧ I m b) (notedBy (model P w) A env fun e a => R (.error e) a) a) (notedBy (model P w) A env fun e a => R (.error e) a) d)
      (fun d => ∃ m, m < n ∧ I m d) s) (n : Nat) (h : I n s) : codeAny (model P w) A (.compLoop (sc2 elt t0 i0 t1 i1 f0 f1 sc pos) 1 it acc env) R s := by
  refine codeAny_loop rfl I (fun n s hI => ?_) n h
  show wpAny _ A (Sem.onRaise (compTurn (sc2 elt t0 i0 t1 i1 f0 f1 sc pos) 1 it acc env) fun x => do noteFrame x env; theTreesLotGoes x) _ _ s
  refine wpAny_noted ?_
  rw [turn_in]
  refine wpAny_bind (wpAny_standAt (wpAny_bind (wpAny_mono (lap n s hI) (fun r a k => ?_) fun _ _ z => z)))
  match r, k with
  | none, k => exact wpAny_pure k
  | some v, k =>
    refine wpAny_bind (wpAny_mono k (fun _ b k => wpAny_bind (wpAny_mono k (fun _ c k => wpAny_bind (wpAny_mono k (fun ok d k => ?_) fun _ _ z => z)) fun _ _ z => z)) fun _ _ z => z)
    match ok, k with
    | false, k => exact wpAny_pure ⟨rfl, k⟩
    | true, k => exact wpAny_bind (wpAny_bind (wpAny_mono k (fun x a k => wpAny_bind (wpAny_standAt (wpAny_bind (wpAny_mono k (fun _ b k => wpAny_pure (wpAny_pure ⟨rfl, k⟩)) fun _ _ z => z)))) fun _ _ z => z))
theorem start_in (h0 : codeAny (model P w) A (.compLoop (sc2 elt t0 i0 t1 i1 f0 f1 sc pos) 1 it acc env) R s)
    (h : wpAny (model P w) A (pyIter it) (fun j a => codeAny (model P w) A (.compLoop (sc2 elt t0 i0 t1 i1 f0 f1 sc pos) 1 j acc env) R a) (notedBy (model P w) A env fun x a => R (.error x) a) s) :
    codeAny (model P w) A (.compStart (sc2 elt t0 i0 t1 i1 f0 f1 sc pos) 1 it acc env) R s := by
  refine codeAny_of_tree ?_
  show wpAny _ _ (Sem.onRaise (compStart (sc2 elt t0 i0 t1 i1 f0 f1 sc pos) 1 it acc env) fun x => do noteFrame x env; standAt theWindowsPlace) _ _ s
  refine wpAny_notedAt ?_
  unfold compStart
  show wpAny _ _ (ask >>= _) _ _ s
  refine wpAny_bind (wpAny_askSetting (wpAny_ite ?_))
  split
  · first | exact wpAny_bind (wpAny_pure (wpAny_pure ⟨rfl, h0⟩)) | exact wpAny_pure ⟨rfl, h0⟩
  · first
    | exact wpAny_bind (wpAny_rule (wpAny_bind (wpAny_standAt (wpAny_bind (wpAny_mono h (fun j a z => wpAny_pure (And.intro rfl z)) fun _ _ z => z)))))
    | (refine wpAny_bind (wpAny_rule ?_); show wpAny _ _ (standAt i1.pos >>= _) _ _ s; exact wpAny_bind (wpAny_standAt (wpAny_bind (wpAny_mono h (fun j a z => wpAny_pure (And.intro rfl z)) fun _ _ z => z))))
end
end Co
set_option Elab.async false
set_option maxRecDepth 100000
set_option maxHeartbeats 4000000
set_option linter.all false
set_option autoImplicit false
/-! TW59: .. as a rule of the layer -/
namespace Co
open PySem PySem.Spec PyProof.Rows L2
open PySem.Sem (wp)
theorem backW {B : Cx} {P : Program} {w : World} {K : PySem.W.Frag} {tg : Expr} {J : It} {fp : List Addr} {it : Addr} {tn : Nat → Heap → Prop} (T : Turn P w K tg J fp it tn) {i : Nat} {h : Heap} {p0 : List (Addr × PySem.Obj)} {τ ρ : L2.St} {H : Hp} {s : Shared}
    (I : Inv B (p0 ++ pinsAt fp h) τ H s) (st : tn i h) (hl : ρ.length = τ.length) (hk : ∀ (j : Nat) v, ρ[j]? = some (some v) → τ[j]? = some (some v)) : Inv B p0 ρ H s ∧ tn i s.heap ∧ ∀ b ∈ fp, H b = none := by
  have held : ∀ b ∈ fp, ∀ o, h.get? b = some o → s.heap.get? b = some o ∧ H b = none := fun b hb o t => by
    have z := I.pin (b, o) (List.mem_append_right _ (List.mem_append_right _ (mem_pinsAt hb t)))
    exact ⟨z.1, z.2.1⟩
  refine ⟨I.unpinned.weak hl hk, T.keep _ _ _ st fun b hb o t => (held b hb o t).1, fun b hb => ?_⟩
  obtain ⟨o, t, _⟩ := T.obj _ _ st b hb
  exact (held b hb o t).2
theorem lap_of {B : Cx} (hc : B.calm = true) (ex : B.xe = fun _ _ => False) {tg : Expr} {ifs : List Expr} {g : TG} {tt : TT} {J : It} {fp : List Addr} {it : Addr} {tn : Nat → Heap → Prop} (T : Turn B.prog B.w B.K tg J fp it tn) (pg : PG B tg g) (pt : PTs B ifs tt)
    {p0 : List (Addr × PySem.Obj)} (own : ∀ H, (∀ b ∈ fp, H b = none) → ∀ b ∈ fp, FpOk B p0 H b) {i : Nat} {σ : L2.St} {H : Hp} {s : Shared} {F : Value → Shared → Prop} {stop yes no : Shared → Prop}
    (I : Inv B p0 σ H s) (st : tn i s.heap) (nf : ∀ b ∈ fp, H b = none)
    (turn : (J.stop i H ∧ ∀ a, Inv B p0 σ H a → stop a) ∨ (J.go i H ∧ ∀ x H', J.yld i H x H' → ∃ Q : L2.St → Hp → Prop, g x σ H' Q ∧ ∀ τ H2, Q τ H2 → ∃ Q2 : Bool → Hp → Prop, tt τ H2 Q2 ∧ ∀ b H3, Q2 b H3 → ∀ (h : Heap) (d : Shared), tn (i + 1) h → Inv B (p0 ++ pinsAt fp h) τ H3 d → if b = true then yes d else no d)) :
    Lap B.prog B.w B.A B.env (.ref it) tg ifs F stop yes no s := by
  unfold Lap
  rcases turn with ⟨e, z⟩ | ⟨e, z⟩
  · exact thnF (T.done B rfl rfl rfl hc i p0 s σ H (fun _ _ => False) I (own H nf) st e) fun r a ⟨er, Ia⟩ => by
      subst er
      exact z a Ia
  · refine thnF (T.item B rfl rfl rfl hc i p0 s σ H (fun _ _ => False) I (own H nf) st e) fun r a ⟨u, er, k⟩ => ?_
    subst er
    refine thnF k fun _ b ⟨x, H1, I1, rx, y1, st1, nf1⟩ => ?_
    have P1 := I1.pinned (own H1 nf1) (T.obj _ _ st1)
    obtain ⟨Q, z1, z2⟩ := z x H1 y1
    have k1 := pg.run _ b _ H1 x u _ P1 rx z1
    rw [ex] at k1
    refine thnF k1 fun _ c ⟨τ, H2, I2, q2⟩ => ?_
    obtain ⟨Q2, z3, z4⟩ := z2 τ H2 q2
    have k2 := pt.run _ c τ H2 _ I2 z3
    rw [ex] at k2
    exact thnF k2 fun ok d ⟨H3, I3, q3⟩ => z4 ok H3 q3 b.heap d st1 I3
variable {X : Cx} {α : Type}
/-- the inner clause, gathering on into D -/
def tInn {P : Program} {w : World} (c : Col P w α) (D : Addr) (wi1 : TI) (g1 : TG) (tt1 : TT) (te : TE) (vs1 : List Nat) (τ : L2.St) (H : Hp) (On : Hp → Prop) : Prop := wi1 τ H fun J H1 => ∃ W : Nat → Nat → Hp → Prop, (∃ m, W 0 m H1) ∧
  ∀ i m H, W i m H → (J.stop i H ∧ On H) ∨ (J.go i H ∧ ∃ Up : Hp → Prop, (∀ H', Up H' → ∃ m', m' < m ∧ W (i + 1) m' H') ∧ ∀ x H', J.yld i H x H' → g1 x (wipe τ vs1) H' fun ρ H2 => wipe ρ vs1 = wipe τ vs1 ∧
    tt1 ρ H2 fun b H3 => if b = true then te ρ H3 fun y H4 => ∃ a a', H4 D = some (c.at_ D a) ∧ c.more a y a' ∧ Up (upd H4 D (c.at_ D a')) else Up H3)
def tCol2 {P : Program} {w : World} (c : Col P w α) (wi : TI) (g : TG) (tt : TT) (wi1 : TI) (g1 : TG) (tt1 : TT) (te : TE) (vs vs1 : List Nat) : TE := fun σ H Q => wi σ H fun J H1 => ∀ D, H1 D = none → ∃ W : Nat → Nat → Hp → Prop, (∃ m, W 0 m (upd H1 D (c.at_ D c.zero))) ∧
  ∀ i m H, W i m H → (J.stop i H ∧ Q (.ref D) H) ∨ (J.go i H ∧ ∃ On : Hp → Prop, (∀ H', On H' → ∃ m', m' < m ∧ W (i + 1) m' H') ∧ ∀ x H', J.yld i H x H' → g x (wipe σ vs) H' fun τ H2 => wipe τ vs = wipe σ vs ∧
    tt τ H2 fun b H3 => if b = true then tInn c D wi1 g1 tt1 te vs1 τ H3 On else On H3)
section
variable {B : Cx} {elt t0 i0 t1 i1 : Expr} {f0 f1 : List Expr} {sc : Scope} {pos : Pos} {g g1 : TG} {tt tt1 : TT} {te : TE} {wi1 : TI}
theorem inner (c : Col B.prog B.w α) (hc : B.calm = true) (ex : B.xe = fun _ _ => False) (pi : PI B t1 i1 wi1) (pg : PG B t1 g1) (pt : PTs B f1 tt1) (pe : PE B elt te)
    {p0 : List (Addr × PySem.Obj)} {D : Addr} {vs1 : List Nat} {τ : L2.St} {H : Hp} {s : Shared} {On : Hp → Prop} {Z : Shared → Prop} {F : Value → Shared → Prop} (I : Inv B p0 τ H s) (q : tInn c D wi1 g1 tt1 te vs1 τ H On) (over : ∀ H a, Inv B p0 (wipe τ vs1) H a → On H → Z a) :
    wpAny (model B.prog B.w) B.A (eval i1 B.env) (fun x a => wpAny (model B.prog B.w) B.A (pyIter x) (fun j b => codeAny (model B.prog B.w) B.A (.compStart (sc2 elt t0 i0 t1 i1 f0 f1 sc pos) 1 j (.ref D) B.env) (fun r c => match r with | .ok _ => Z c | .error _ => False) b) F a) F s := by
  have k := pi.run p0 s τ H _ I q
  rw [ex] at k
  refine thnF k fun x a k => thnF k fun j b ⟨it, fp, tn, J, H1, e, I1, T, st, f, W, ⟨m0, w0⟩, turn⟩ => ?_
  subst e
  have loop : codeAny (model B.prog B.w) B.A (.compLoop (sc2 elt t0 i0 t1 i1 f0 f1 sc pos) 1 (.ref it) (.ref D) B.env) (fun r c => match r with | .ok _ => Z c | .error _ => False) b := by
    refine loop_in (fun n s => ∃ i H, Inv B p0 (wipe τ vs1) H s ∧ tn i s.heap ∧ (∀ b ∈ fp, H b = none) ∧ W i n H) (fun n s1 ⟨i, H2, I2, st2, nf2, w2⟩ => ?_) m0 ⟨0, H1, I1.weak (wipe_length _ _) (fun j v e => (wipe_some e).1), st, fun b hb => (f b hb).1, w0⟩
    refine lap_of hc ex T pg pt (fun H n b hb => ⟨n b hb, (f b hb).2⟩) I2 st2 nf2 ?_
    rcases turn i n H2 w2 with ⟨e, z⟩ | ⟨go, Up, less, step⟩
    · exact .inl ⟨e, fun a Ia => over H2 a Ia z⟩
    · refine .inr ⟨go, fun x H' y => ?_⟩
      refine ⟨_, step x H' y, fun ρ H3 ⟨er, z⟩ => ⟨_, z, fun ok H4 q4 h d st4 I4 => ?_⟩⟩
      have next : ∀ {H' : Hp} {a : Shared}, Inv B (p0 ++ pinsAt fp h) ρ H' a → Up H' → ∃ m, m < n ∧ ∃ i H, Inv B p0 (wipe τ vs1) H a ∧ tn i a.heap ∧ (∀ b ∈ fp, H b = none) ∧ W i m H := fun I' u => by
        obtain ⟨m', lt, w'⟩ := less _ u
        obtain ⟨b1, b2, b3⟩ := backW (ρ := wipe τ vs1) T I' st4 (by rw [← er, wipe_length]) fun j v t => by rw [← er] at t; exact (wipe_some t).1
        exact ⟨m', lt, i + 1, _, b1, b2, b3, w'⟩
      cases ok with
      | false =>
        simp only [Bool.false_eq_true, if_false] at q4 ⊢
        exact next I4 q4
      | true =>
        simp only [if_true] at q4 ⊢
        have k3 := pe.run _ d ρ H4 _ I4 q4
        rw [ex] at k3
        refine thnF k3 fun v a ⟨y, H5, I5, ry, a0, a1, hD, mo, u⟩ => ?_
        exact c.add B rfl rfl I5 hD mo ry fun b I6 => next I6 u
  exact start_in loop (T.self B.A 0 _ _ _ st loop)
theorem outer (c : Col B.prog B.w α) (hc : B.calm = true) (ex : B.xe = fun _ _ => False) {wi : TI} (pg : PG B t0 g) (pt : PTs B f0 tt) (pi : PI B t1 i1 wi1) (pg1 : PG B t1 g1) (pt1 : PTs B f1 tt1) (pe : PE B elt te) (hs : ∀ x, foldedSetIterable i1 B.env x = pure x)
    {J : It} {fp : List Addr} {it D : Addr} {tn : Nat → Heap → Prop} {W : Nat → Nat → Hp → Prop} {Z : Hp → Prop} {vs vs1 : List Nat} {σ : L2.St} {R : Result → Shared → Prop} (hv : ∀ i ∈ vs1, i ∈ vs) (T : Turn B.prog B.w B.K t0 J fp it tn)
    (own : ∀ H, (∀ b ∈ fp, H b = none) → ∀ b ∈ fp, FpOk B [] H b)
    (turn : ∀ i m H, W i m H → (J.stop i H ∧ Z H) ∨ (J.go i H ∧ ∃ On : Hp → Prop, (∀ H', On H' → ∃ m', m' < m ∧ W (i + 1) m' H') ∧ ∀ x H', J.yld i H x H' → g x (wipe σ vs) H' fun τ H2 => wipe τ vs = wipe σ vs ∧
      tt τ H2 fun b H3 => if b = true then tInn c D wi1 g1 tt1 te vs1 τ H3 On else On H3))
    (stop : ∀ H s, Inv B [] (wipe σ vs) H s → Z H → R (.ok .next) s) {m : Nat} {H : Hp} {s : Shared} (I : Inv B [] (wipe σ vs) H s) (st : tn 0 s.heap) (nf : ∀ b ∈ fp, H b = none) (w : W 0 m H) :
    codeAny (model B.prog B.w) B.A (.compLoop (sc2 elt t0 i0 t1 i1 f0 f1 sc pos) 0 (.ref it) (.ref D) B.env) R s := by
  refine loop_out hs (fun n s => ∃ i H, Inv B [] (wipe σ vs) H s ∧ tn i s.heap ∧ (∀ b ∈ fp, H b = none) ∧ W i n H) (fun n s1 ⟨i, H2, I2, st2, nf2, w2⟩ => ?_) m ⟨0, H, I, st, nf, w⟩
  refine lap_of hc ex T pg pt own I2 st2 nf2 ?_
  rcases turn i n H2 w2 with ⟨e, z⟩ | ⟨go, On, less, step⟩
  · exact .inl ⟨e, fun a Ia => stop H2 a Ia z⟩
  · refine .inr ⟨go, fun x H' y => ⟨_, step x H' y, fun τ H3 ⟨er, z⟩ => ⟨_, z, fun ok H4 q4 h d st4 I4 => ?_⟩⟩⟩
    have next : ∀ {ρ : L2.St} {H' : Hp} {a : Shared}, Inv B ([] ++ pinsAt fp h) ρ H' a → (wipe σ vs).length = ρ.length → (∀ (j : Nat) v, (wipe σ vs)[j]? = some (some v) → ρ[j]? = some (some v)) → On H' → ∃ m, m < n ∧ ∃ i H, Inv B [] (wipe σ vs) H a ∧ tn i a.heap ∧ (∀ b ∈ fp, H b = none) ∧ W i m H := fun I' l k u => by
      obtain ⟨m', lt, w'⟩ := less _ u
      obtain ⟨b1, b2, b3⟩ := backW (ρ := wipe σ vs) T I' st4 l k
      exact ⟨m', lt, i + 1, _, b1, b2, b3, w'⟩
    have hl : (wipe σ vs).length = τ.length := by rw [← er, wipe_length]
    have hk : ∀ (j : Nat) v, (wipe σ vs)[j]? = some (some v) → τ[j]? = some (some v) := fun j v t => by rw [← er] at t; exact (wipe_some t).1
    cases ok with
    | false =>
      simp only [Bool.false_eq_true, if_false] at q4 ⊢
      exact next I4 hl hk q4
    | true =>
      simp only [if_true] at q4 ⊢
      refine inner c hc ex pi pg1 pt1 pe I4 q4 fun H' a I' u => next I' (hl.trans (wipe_length τ vs1).symm) (fun j v t => ?_) u
      rw [← er] at t
      obtain ⟨t1, t2⟩ := wipe_some t
      rw [wipe_out fun z => t2 (hv j z)]
      exact t1
end
theorem pe_col2 {elt t0 i0 t1 i1 : Expr} {f0 f1 : List Expr} {sc : Scope} {own : List (PySem.Str × Nat)} {vs1 : List Nat} {pos : Pos} {wi wi1 : TI} {g g1 : TG} {tt tt1 : TT} {te : TE} (c : Col X.prog X.w α) (hc : X.calm = true) (hN : X.N.Nodup) (hi : PI X t0 i0 wi) (ok : BlkOk X.N X.env.scope sc own) (hv : ∀ i ∈ vs1, i ∈ own.map (·.2))
    (hg : ∀ s H C cl fp, PG (X.blk s H sc (compEnvC sc cl C X.env) fp) t0 g) (ht : ∀ s H C cl fp, PTs (X.blk s H sc (compEnvC sc cl C X.env) fp) f0 tt)
    (hi1 : ∀ s H C cl fp, PI (X.blk s H sc (compEnvC sc cl C X.env) fp) t1 i1 wi1) (hg1 : ∀ s H C cl fp, PG (X.blk s H sc (compEnvC sc cl C X.env) fp) t1 g1) (ht1 : ∀ s H C cl fp, PTs (X.blk s H sc (compEnvC sc cl C X.env) fp) f1 tt1)
    (he : ∀ s H C cl fp, PE (X.blk s H sc (compEnvC sc cl C X.env) fp) elt te) (hs : ∀ x, foldedSetIterable i0 X.env x = pure x := by intro _; rfl) (hs1 : ∀ env x, foldedSetIterable i1 env x = pure x := by intro _ _; rfl) :
    PE X (sc2 elt t0 i0 t1 i1 f0 f1 sc pos) (tCol2 c wi g tt wi1 g1 tt1 te (own.map (·.2)) vs1) := by
  refine ⟨fun pins s σ H Q I h => ?_⟩
  have hf : ∀ y ∈ sc.names, y.2 = .free → ∃ a, X.env.cells.lookup y.1 = some a := fun y hy e => (ok.free y hy e).elim (fun k => I.ok.has _ (.inl k)) fun k => I.ok.has _ (.inr k)
  rw [PpSet.eval_SetComp]
  refine wpAny_comprehension_free (use := none) rfl hs (closure_ok hf) ok.kind (fun y hy e => by rw [ok.uniq y hy, e]) (thn (hi.run pins s σ H _ I h) fun _ s1 hx => thn hx fun _ s2 ⟨it, fp, tn, J, H2, e, I2, T, st2, f2, q⟩ => ?_)
  subst e
  refine PpSet.newSet_ok (newEnv_comp ?_)
  obtain ⟨W, ⟨m0, w0⟩, turn⟩ := q s2.heap.objs.size (I2.hok.fresh (Nat.le_refl _))
  have k3 : ∀ b o, s2.heap.get? b = some o → (s2.heap.push { cls := .type "set", dict := none, data := .set #[] 0 (.fresh 0 0 (!X.w.params.followText "set-order")) }).get? b = some o := fun b o e => Heap.get?_push_of_some _ e
  have I3 := I2.laid (t' := s2.toks) k3 (Nat.le_refl _) (c.new s2.heap (upd H2 s2.heap.objs.size (c.at_ s2.heap.objs.size c.zero)))
  have sz : ∀ b ∈ fp, b < s2.heap.objs.size := fun b hb => by
    obtain ⟨_, e, _⟩ := T.obj _ _ st2 b hb
    exact Heap.lt_size e
  have f3 : ∀ b ∈ fp, FpOk X pins (upd H2 s2.heap.objs.size (c.at_ s2.heap.objs.size c.zero)) b ∧ b < (s2.heap.push { cls := .type "set", dict := none, data := .set #[] 0 (.fresh 0 0 (!X.w.params.followText "set-order")) }).objs.size := fun b hb =>
    ⟨⟨by rw [upd_ne (Nat.ne_of_lt (sz b hb))]; exact (f2 b hb).1, (f2 b hb).2⟩, by rw [Heap.size_push]; exact Nat.lt_succ_of_lt (sz b hb)⟩
  have st3 := T.keep _ _ _ st2 fun b _ o e => k3 b o e
  generalize s2.heap.objs.size = D at I3 f3 turn w0 ⊢
  generalize (upd H2 D (c.at_ D c.zero)) = H3 at I3 f3 w0 ⊢
  generalize h3 : ({ s2 with heap := s2.heap.push { cls := .type "set", dict := none, data := .set #[] 0 (.fresh 0 0 (!X.w.params.followText "set-order")) }, toks := s2.toks } : Shared) = s3 at I3 ⊢
  have I4 := block_start (s := s3) I3 ok hN (by rw [← h3]; exact f3)
  have nf : ∀ b ∈ fp, H3 b = none := fun b hb => (f3 b hb).1.1
  have st4 := T.keep _ _ _ st3 fun b _ o e => pushCells_keeps sc.names ((s2.heap.push { cls := .type "set", dict := none, data := .set #[] 0 (.fresh 0 0 (!X.w.params.followText "set-order")) }).push { cls := .type "dict", data := .dict #[] }) b o (Heap.get?_push_of_some _ e)
  have fO : ∀ b ∈ fp, b ∈ fp := fun _ h => h
  have loop := outer (B := X.blk s3 H3 sc (compEnvC sc (cellsFrom (s3.heap.objs.size + 1) sc.names (cloFrom X.env.cells sc.names [])) s3.heap.objs.size X.env) fp) (wi := wi) (R := compPost (model X.prog X.w) X.A X.xe none (EP X pins σ Q) (.ref D) s3.heap.objs.size) (i0 := i0) (sc := sc) (pos := pos) c hc rfl
    (hg _ _ _ _ _) (ht _ _ _ _ _) (hi1 _ _ _ _ _) (hg1 _ _ _ _ _) (ht1 _ _ _ _ _) (he _ _ _ _ _) (hs1 _) hv T
    (fun H n b hb => ⟨n b hb, (I4.ok.exf b hb).1, I4.ok.exfs b hb, .inl hb, fun x c e => (I4.ok.exf b hb).2 x c e, fun p hp => absurd (show p ∈ ([] : List (Addr × PySem.Obj)) ++ [] from hp) (by simp)⟩) turn
    (fun H s J z => by
      have back : Inv X pins σ H s := I3.call' (ch := fp) J.os J.base J.hok J.bare fun b hb => ⟨(f3 b hb).1.2.2.2.1, (f3 b hb).1.2.1, (f3 b hb).1.2.2.2.2.1, (f3 b hb).1.2.2.2.2.2⟩
      have nC : H s3.heap.objs.size = none := J.free
      obtain ⟨m, hn, _⟩ := J.loc
      have f := I3.fpOk (Nat.le_refl _) nC
      exact ⟨m, hn, fun h' sb => ⟨.ref D, H, back.turnedL (t' := s.toks) (ch := [s3.heap.objs.size]) (fun b o hb e => (sb.2 b (by simpa using hb)).trans e) (fun b hb => by rw [List.mem_singleton.mp hb]; exact f), rfl, z⟩⟩) I4 (by rw [← h3]; exact st4) nf w0
  refine PpSet.codeAny_compStart_set loop ?_
  exact T.self X.A 0 _ _ _ (by rw [← h3]; exact st4) loop
end Co
set_option Elab.async false
set_option maxRecDepth 100000
set_option maxHeartbeats 4000000
set_option linter.all false
set_option autoImplicit false
/-! TW60: comprehensions with two fors, as values -/
namespace TW
open Pa (rep)
open PaL (repL)
open PySem PySem.Spec PyProof.Rows L2 My
theorem wipe_sub (σ : L2.St) (vs : List Nat) (l : List (Nat × V)) (h : ∀ i ∈ l.map (·.1), i ∈ vs) : wipe (sets (wipe σ vs) l) vs = wipe σ vs := by
  refine List.ext_getElem? fun i => ?_
  rw [wipe_get, wipe_get]
  have hs : ∀ (l : List (Nat × V)) (τ : L2.St), (sets τ l).length = τ.length ∧ (i ∉ l.map (·.1) → (sets τ l)[i]? = τ[i]?) := by
    intro l
    induction l with
    | nil => exact fun τ => ⟨rfl, fun _ => rfl⟩
    | cons p l ih =>
      intro τ
      obtain ⟨a, b⟩ := ih (τ.set p.1 (some p.2))
      refine ⟨by show (sets (τ.set p.1 (some p.2)) l).length = _; rw [a, List.length_set], fun n => ?_⟩
      rw [List.map_cons, List.mem_cons, not_or] at n
      show (sets (τ.set p.1 (some p.2)) l)[i]? = _
      rw [b n.2, List.getElem?_set_ne (fun e => n.1 e.symm)]
  obtain ⟨a, b⟩ := hs l (wipe σ vs)
  by_cases hi : i ∈ vs
  · rw [if_pos hi, if_pos hi]
    by_cases hl : i < σ.length
    · rw [List.getElem?_eq_getElem (by rw [a, wipe_length]; exact hl), List.getElem?_eq_getElem hl]
      rfl
    · rw [List.getElem?_eq_none (by rw [a, wipe_length]; omega), List.getElem?_eq_none (by omega)]
  · rw [if_neg hi, if_neg hi, b fun z => hi (h i z), wipe_get, if_neg hi]
/-- gathering on: the inner clause -/
def scW {γ : Type} (t : γ → W Bool) (e : γ → W Int) : List γ → List Int → W (List Int)
  | [], acc => pure acc
  | y :: ys, acc => (t y).q >>= fun b => if b = true then (e y).q >>= fun z => W.need ((ddup acc).length ≤ 60) >>= fun _ => scW t e ys (acc ++ [z]) else scW t e ys acc
def scW2 {α γ : Type} (t : α → W Bool) (m1 : α → W (List γ)) (t1 : α → γ → W Bool) (e : α → γ → W Int) : List α → List Int → W (List Int)
  | [], acc => pure acc
  | x :: xs, acc => (t x).q >>= fun b => if b = true then (m1 x).q >>= fun ys => scW (t1 x) (e x) ys acc >>= fun r => scW2 t m1 t1 e xs r else scW2 t m1 t1 e xs acc
theorem ddup_more {acc : List Int} {y : Int} {n : Nat} (h : n ≤ (ddup acc).length) : (if decide (y ∈ acc) = true then n else n + 1) ≤ (ddup (acc ++ [y])).length := by
  rw [ddup_app]
  by_cases e : y ∈ acc
  · have e2 : y ∈ ddup acc := (mem_ddup acc y).mpr e
    rw [decide_eq_true e, if_pos rfl]
    unfold step_dedup
    split <;> simp <;> omega
  · have e2 : y ∉ ddup acc := fun z => e ((mem_ddup acc y).mp z)
    rw [decide_eq_false e, if_neg Bool.false_ne_true]
    unfold step_dedup
    simp [e2]
    omega
theorem Iv.chgD {Γ : Cxt} {A : Av} {H : Hp} {σ : L2.St} {δ : List Sl} {D : Addr} {u : HO} (I : Iv Γ A H σ δ) (hM : A.M D) (hB : ¬ A.B D) (hn : Γ.H0 D = none) (sep : ∀ (j : Nat) t, δ[j]? = some t → t.own = true → σ[j]? = some (some (.ref D)) → False) : Iv Γ A (upd H D u) σ δ := by
  have mv : Mv A H A (upd H D u) := Mv.chg I.dom hM hB
  refine ⟨I.len, fun j t e => ?_, I.sep, I.d0, I.st.chg hn hM hB, I.er⟩
  obtain ⟨o, eo, r⟩ := I.at_ j t e
  refine ⟨o, eo, ?_⟩
  have own : t.own = true → OwnAt Γ.G Γ.H0 A H o t → OwnAt Γ.G Γ.H0 A (upd H D u) o t := fun ot ⟨p, ho, e1, m, b, n, hh, k⟩ => by
    have ne : p ≠ D := fun z => sep j t e ot (by rw [eo, e1, z])
    exact ⟨p, ho, e1, m, b, n, by rw [upd_ne ne]; exact hh, k.mv mv⟩
  cases t with
  | un => trivial
  | @fx α i a => obtain ⟨v, e1, r⟩ := r; exact ⟨v, e1, Py.mv r mv⟩
  | @bo α i xs => obtain ⟨v, p, vs, e1, e2, r, k⟩ := r; exact ⟨v, p, vs, e1, e2, r, k.imp fun _ _ r => Py.mv r mv⟩
  | @mu α i xs => exact own rfl r
  | @mp α i q xs => exact own rfl r
  | ob C q fs => exact own rfl r
section
variable {Γ : Cxt} {δ : List Sl} {α γ : Type}
/-- what stands in the set -/
def Gth (w : World) (A1 : Av) (H1 : Hp) (D : Addr) (acc : List Int) (A : Av) (H : Hp) : Prop := ∃ n, St A1 H1 A H ∧ A.M D ∧ ¬ A.B D ∧ H D = some (SetO w D (fun j => decide (j ∈ acc)) n) ∧ n ≤ (ddup acc).length
theorem Gth.step {w : World} {A1 A A' : Av} {H1 H H' : Hp} {D : Addr} {acc : List Int} (g : Gth w A1 H1 D acc A H) (s : St A H A' H') : Gth w A1 H1 D acc A' H' := by
  obtain ⟨n, st, hM, hB, hD, hn⟩ := g
  exact ⟨n, st.trans s, s.ms D hM, fun z => (s.nb D z).elim hB (fun y => by rw [y] at hD; cases hD), s.k D _ hB hD, hn⟩
/-- one more thing -/
theorem Gth.add {w : World} {A1 A : Av} {H1 H : Hp} {D : Addr} {acc : List Int} {τ : L2.St} (g : Gth w A1 H1 D acc A H) (nD : H1 D = none) (n0 : Γ.H0 D = none) (I : Iv Γ A H τ δ) (y : Int) (h60 : (ddup acc).length ≤ 60) {P : Program} :
    ∃ a a', H D = some ((Co.colI P w).at_ D a) ∧ (Co.colI P w).more a (.int y) a' ∧ Gth w A1 H1 D (acc ++ [y]) A (upd H D ((Co.colI P w).at_ D a')) ∧ Iv Γ A (upd H D ((Co.colI P w).at_ D a')) τ δ ∧ Mv A H A (upd H D ((Co.colI P w).at_ D a')) := by
  obtain ⟨n, st, hM, hB, hD, hn⟩ := g
  refine ⟨(fun j => decide (j ∈ acc), n), _, hD, ⟨y, rfl, by show n + 1 < scanBound; unfold scanBound; omega, rfl⟩, ⟨if decide (y ∈ acc) = true then n else n + 1, st.chg nD hM hB, hM, hB, ?_, ddup_more hn⟩, I.chgD hM hB n0 (fun j t e o pj => ?_), Mv.chg I.dom hM hB⟩
  · rw [upd_same]
    show some (SetO w D _ _) = some (SetO w D _ _)
    congr 2
    funext j
    simp
  · obtain ⟨p, ho, e1, _, _, _, hh, k⟩ := I.own e o
    rw [pj] at e1
    cases e1
    rw [hD] at hh
    have ee := Option.some.inj hh
    subst ee
    cases t with
    | @mu α i xs => obtain ⟨vs, e2, _⟩ := k; exact nomatch e2
    | @mp α i q xs => obtain ⟨_, vs, e2, _⟩ := k; exact nomatch e2
    | ob C q fs => obtain ⟨_, dx, ws, e2, _⟩ := k; exact nomatch e2
    | _ => cases o
theorem scW_run {P : Program} {w : World} {wi1 : TI} {g1 : TG} {tt1 : TT} {te : TE} {m1 : W (List γ)} {bd1 : γ → List Sl → List Sl} {vs1 : List Nat} {t1 : γ → W Bool} {e : γ → W Int} {δ1 : List Sl} (hi : EvI Γ.q wi1 g1 δ1 m1 bd1 vs1) (ht : ∀ c, EvB Γ.q tt1 (bd1 c (wipeS δ1 vs1)) (t1 c)) (he : ∀ c, EvT Γ.q te (bd1 c (wipeS δ1 vs1)) (e c))
    {A1 A : Av} {H1 H : Hp} {D : Addr} {acc : List Int} {τ : L2.St} {On : Hp → Prop} {C : List Int → Prop} {E : Exn → Prop} (nD : H1 D = none) (n0 : Γ.H0 D = none) (I : Iv Γ.q A H τ δ1) (g : Gth w A1 H1 D acc A H) (on : ∀ acc A H, Gth w A1 H1 D acc A H → C acc → On H)
    (q : (m1.q >>= fun ys => scW t1 e ys acc).run C E) : Co.tInn (Co.colI P w) D wi1 g1 tt1 te vs1 τ H On := by
  refine hi τ A H _ I (m1.mono (fun ys q J A2 H2 s2 ok => ?_) (fun _ z => False.elim z) q)
  refine ⟨fun i k H => k + i = ys.length ∧ ∃ A acc, Mv A2 H2 A H ∧ Iv Γ.q A H τ δ1 ∧ Gth w A1 H1 D acc A H ∧ (scW t1 e (ys.drop i) acc).run C E, ⟨ys.length, rfl, A2, acc, Mv.refl s2.d, I.step s2, g.step s2, q⟩, ?_⟩
  rintro i k H3 ⟨hk, A3, acc3, m3, I3, g3, q3⟩
  by_cases hi' : i < ys.length
  · obtain ⟨go, tn⟩ := ok.turn i ys[i] (List.getElem?_eq_getElem hi') A3 H3 I3.st m3
    rw [List.drop_eq_getElem_cons hi'] at q3
    refine .inr ⟨go, fun H4 => ∃ A acc, Mv A2 H2 A H4 ∧ Iv Γ.q A H4 τ δ1 ∧ Gth w A1 H1 D acc A H4 ∧ (scW t1 e (ys.drop (i + 1)) acc).run C E, fun H4 ⟨A4, acc4, z⟩ => ⟨k - 1, by omega, by omega, A4, acc4, z⟩, fun x H' y => ?_⟩
    refine tn x H' y _ (wipeS δ1 vs1) (wipeS_len δ1 vs1) (I3.wipe vs1) _ fun l A4 H4 el s4 I4 => ⟨wipe_idem τ vs1 l el, ?_⟩
    refine ht ys[i] _ A4 H4 _ I4 ((t1 ys[i]).mono (fun b q A5 H5 s5 => ?_) (fun _ z => False.elim z) q3)
    have s45 := s4.trans s5
    have m45 : Mv A2 H2 A5 H5 := m3.trans (s45.mv I3.dom)
    cases b with
    | false => exact iteF ⟨A5, acc3, m45, I3.step s45, g3.step s45, by simpa using q⟩
    | true =>
      refine iteT (he ys[i] _ A5 H5 _ (I4.step s5) ((e ys[i]).mono (fun y q v A6 H6 s6 r6 => ?_) (fun _ z => False.elim z) (by simpa using q)))
      have s46 := s45.trans s6
      have ev : v = .int y := r6
      subst ev
      obtain ⟨h60, q⟩ := q
      obtain ⟨a, a', e1, e2, e3, e4, e5⟩ := (g3.step s46).add (P := P) nD (show Γ.q.H0 D = none from n0) (I3.step s46) y h60
      exact ⟨a, a', e1, e2, A6, acc3 ++ [y], (m3.trans (s46.mv I3.dom)).trans e5, e4, e3, q⟩
  · have ei : i = ys.length := by omega
    subst ei
    rw [List.drop_length] at q3
    exact .inl ⟨ok.stop A3 H3 I3.st m3, on acc3 A3 H3 g3 q3⟩
/-- sorted({e for x in xs if t for y in ys if t1}), whole numbers -/
theorem ef_srtCol2 {P : Program} {w : World} {wi wi1 : TI} {g g1 : TG} {tt tt1 : TT} {te : TE} {m : W (List α)} {bd : α → List Sl → List Sl} {js vs vs1 : List Nat} {t : α → W Bool} {m1 : α → W (List γ)} {bd1 : γ → List Sl → List Sl} {t1 : α → γ → W Bool} {e : α → γ → W Int}
    (hi : EvI Γ wi g δ m bd js) (hj : ∀ i ∈ js, i ∈ vs) (ht : ∀ a, EvB Γ.q tt (bd a (wipeS δ vs)) (t a)) (hi1 : ∀ a, EvI Γ.q wi1 g1 (bd a (wipeS δ vs)) (m1 a) bd1 vs1) (ht1 : ∀ a c, EvB Γ.q tt1 (bd1 c (wipeS (bd a (wipeS δ vs)) vs1)) (t1 a c)) (he : ∀ a c, EvT Γ.q te (bd1 c (wipeS (bd a (wipeS δ vs)) vs1)) (e a c)) :
    EvF Γ (tCB (rSrtS w) (tCons (Co.tCol2 (Co.colI P w) wi g tt wi1 g1 tt1 te vs vs1) tNil)) δ (m >>= fun xs => scW2 t m1 t1 e xs [] >>= fun r => W.need ((ddup r).length ≤ 60) >>= fun _ => (pure (srtU r) : W (List Int))) := fun σ A H Q I q => by
  refine hi σ A H _ I (m.mono (fun xs q J A1 H1 s1 ok => ?_) (fun _ h => h) q)
  intro D nD
  have n0 : Γ.H0 D = none := (I.st.trans s1).none nD
  refine ⟨fun i k H => k + i = xs.length ∧ ∃ A acc, Gth w A1 H1 D acc A H ∧ (scW2 t m1 t1 e (xs.drop i) acc).run (fun r => ∀ A' H', Gth w A1 H1 D r A' H' → rSrtS w [.ref D] H' Q) Γ.Er,
    ⟨xs.length, rfl, A1.add D, [], ⟨0, St.newM s1.d nD, .inr rfl, fun b => s1.d.nm nD (s1.d.s D b), by rw [upd_same]; simp [Co.colI], Nat.zero_le _⟩, ?_⟩, ?_⟩
  · refine (scW2 t m1 t1 e xs []).mono (fun r q A' H' gg => ?_) (fun _ h => h) q
    obtain ⟨n, st, hM, hB, hD, hn⟩ := gg
    obtain ⟨h60, q⟩ := q
    exact ⟨D, r, n, rfl, hD, by omega, fun l nl => fresh_lst (s1.trans st) (ints_all2 _) nl q⟩
  rintro i k H2 ⟨hk, A2, acc, g2, q2⟩
  obtain ⟨_, st2, _⟩ := id g2
  have I2 : Iv Γ A2 H2 σ δ := (I.step s1).step st2
  by_cases hi' : i < xs.length
  · obtain ⟨go, tn⟩ := ok.turn i xs[i] (List.getElem?_eq_getElem hi') A2 H2 I2.st (st2.mv s1.d)
    rw [List.drop_eq_getElem_cons hi'] at q2
    refine .inr ⟨go, fun H3 => ∃ A acc, Gth w A1 H1 D acc A H3 ∧ (scW2 t m1 t1 e (xs.drop (i + 1)) acc).run (fun r => ∀ A' H', Gth w A1 H1 D r A' H' → rSrtS w [.ref D] H' Q) Γ.Er, fun H3 ⟨A3, acc3, z⟩ => ⟨k - 1, by omega, by omega, A3, acc3, z⟩, fun x H' y => ?_⟩
    refine tn x H' y _ (wipeS δ vs) (wipeS_len δ vs) (I2.wipe vs) _ fun l A3 H3 el s3 I3 => ⟨wipe_sub σ vs l fun z hz => hj z (by rw [el] at hz; exact hz), ?_⟩
    refine ht xs[i] _ A3 H3 _ I3.q ((t xs[i]).mono (fun b q A4 H4 s4 => ?_) (fun _ h => h) q2)
    have s34 := s3.trans s4
    cases b with
    | false => exact iteF ⟨A4, acc, g2.step s34, by simpa using q⟩
    | true =>
      refine iteT (scW_run (hi1 xs[i]) (ht1 xs[i]) (he xs[i]) nD n0 (I3.q.step s4) (g2.step s34) (fun acc' A' H' gg c => ⟨A', acc', gg, c⟩) (C := fun acc' => (scW2 t m1 t1 e (xs.drop (i + 1)) acc').run (fun r => ∀ A' H', Gth w A1 H1 D r A' H' → rSrtS w [.ref D] H' Q) Γ.Er) (E := Γ.Er) ?_)
      simpa using q
  · have ei : i = xs.length := by omega
    subst ei
    rw [List.drop_length] at q2
    exact .inl ⟨ok.stop A2 H2 I2.st (st2.mv s1.d), q2 A2 H2 g2⟩
end
end TW
set_option Elab.async false
set_option maxRecDepth 100000
set_option maxHeartbeats 4000000
set_option linter.all false
set_option autoImplicit false
/-! TW61: lists with two fors -/
namespace TW
open Pa (rep)
open PaL (repL)
open PySem PySem.Spec PyProof.Rows L2 My
/-- the lists and objects of our own are those of before -/
def ownChk : List Sl → List Sl → List Nat → Nat → Bool
  | [], _, _, _ => true
  | s :: l, d, vs, i => (!s.own || (!vs.contains i && (match d with | t :: _ => t.own | [] => false))) && ownChk l d.tail vs (i + 1)
theorem ownChk_ok : ∀ {l d : List Sl} {vs : List Nat} {i : Nat}, ownChk l d vs i = true → ∀ (j : Nat) t, l[j]? = some t → t.own = true → i + j ∉ vs ∧ ∃ u, d[j]? = some u ∧ u.own = true
  | [], _, _, _, _, j, t, e, _ => by simp at e
  | s :: l, d, vs, i, h, j, t, e, o => by
    unfold ownChk at h
    rw [Bool.and_eq_true] at h
    cases j with
    | zero =>
      have e : s = t := by simpa using e
      subst e
      have h1 := h.1
      rw [o] at h1
      simp only [Bool.not_true, Bool.false_or, Bool.and_eq_true, Bool.not_eq_true'] at h1
      obtain ⟨a, b⟩ := h1
      refine ⟨fun z => by simp at a; exact a z, ?_⟩
      cases d with
      | nil => cases b
      | cons u d => exact ⟨u, rfl, b⟩
    | succ j =>
      have := ownChk_ok h.2 j t (by simpa using e) o
      refine ⟨by have := this.1; rwa [show i + 1 + j = i + (j + 1) by omega] at this, ?_⟩
      obtain ⟨u, e1, e2⟩ := this.2
      cases d with
      | nil => simp at e1
      | cons v d => exact ⟨u, by simpa using e1, e2⟩
theorem sets_out : ∀ (l : List (Nat × V)) (τ : L2.St) {i : Nat}, i ∉ l.map (·.1) → (sets τ l)[i]? = τ[i]?
  | [], _, _, _ => rfl
  | p :: l, τ, i, n => by
    rw [List.map_cons, List.mem_cons, not_or] at n
    show (sets (τ.set p.1 (some p.2)) l)[i]? = _
    rw [sets_out l _ n.2, List.getElem?_set_ne (fun e => n.1 e.symm)]
/-- gathering on -/
def lcW {γ β : Type} (t : γ → W Bool) (e : γ → W β) : List γ → List β → W (List β)
  | [], acc => pure acc
  | y :: ys, acc => (t y).q >>= fun b => if b = true then (e y).q >>= fun z => W.need (acc.length < sizeLine) >>= fun _ => lcW t e ys (acc ++ [z]) else lcW t e ys acc
def lcW2 {α γ β : Type} (t : α → W Bool) (m1 : α → W (List γ)) (t1 : α → γ → W Bool) (e : α → γ → W β) : List α → List β → W (List β)
  | [], acc => pure acc
  | x :: xs, acc => (t x).q >>= fun b => if b = true then (m1 x).q >>= fun ys => lcW (t1 x) (e x) ys acc >>= fun r => lcW2 t m1 t1 e xs r else lcW2 t m1 t1 e xs acc
section
variable {Γ : Cxt} {δ : List Sl} {α β γ : Type}
def GthL [Py β] (Γ : Cxt) (A1 : Av) (H1 : Hp) (D : Addr) (acc : List β) (A : Av) (H : Hp) : Prop := ∃ vs, St A1 H1 A H ∧ A.M D ∧ ¬ A.B D ∧ H D = some (.lst vs) ∧ All2 (rep Γ.G A H) vs acc
theorem GthL.step [Py β] {A1 A A' : Av} {H1 H H' : Hp} {D : Addr} {acc : List β} (g : GthL Γ A1 H1 D acc A H) (s : St A H A' H') : GthL Γ A1 H1 D acc A' H' := by
  obtain ⟨vs, st, hM, hB, hD, k⟩ := g
  exact ⟨vs, st.trans s, s.ms D hM, fun z => (s.nb D z).elim hB (fun y => by rw [y] at hD; cases hD), s.k D _ hB hD, k.imp fun _ _ r => Pa.st r st.d s⟩
theorem GthL.add [Py β] {A1 A : Av} {H1 H : Hp} {D : Addr} {acc : List β} {τ : L2.St} (g : GthL Γ A1 H1 D acc A H) (nD : H1 D = none) (n0 : Γ.H0 D = none) (I : Iv Γ A H τ δ) (sep : ∀ (j : Nat) t, δ[j]? = some t → t.own = true → τ[j]? = some (some (.ref D)) → False) {v : V} {y : β} (r : rep Γ.G A H v y) (hz : acc.length < sizeLine) :
    ∃ vs, H D = some (.lst vs) ∧ vs.length < sizeLine ∧ GthL Γ A1 H1 D (acc ++ [y]) A (upd H D (.lst (vs ++ [v]))) ∧ Iv Γ A (upd H D (.lst (vs ++ [v]))) τ δ ∧ Mv A H A (upd H D (.lst (vs ++ [v]))) := by
  obtain ⟨vs, st, hM, hB, hD, k⟩ := g
  have mv : Mv A H A (upd H D (.lst (vs ++ [v]))) := Mv.chg I.dom hM hB
  exact ⟨vs, hD, by rw [k.len]; exact hz, ⟨_, st.chg nD hM hB, hM, hB, upd_same, (k.imp fun _ _ r => Py.mv r mv).app (.cons (Py.mv r mv) .nil)⟩, I.chgD hM hB n0 sep, mv⟩
theorem ef_comp2 [Py β] {wi wi1 : TI} {g g1 : TG} {tt tt1 : TT} {te : TE} {m : W (List α)} {bd : α → List Sl → List Sl} {js vs vs1 : List Nat} {t : α → W Bool} {m1 : α → W (List γ)} {bd1 : γ → List Sl → List Sl} {t1 : α → γ → W Bool} {e : α → γ → W β}
    (hi : EvI Γ wi g δ m bd js) (hj : ∀ i ∈ js, i ∈ vs) (ho : ∀ a, ownChk (bd a (wipeS δ vs)) δ vs 0 = true) (ht : ∀ a, EvB Γ.q tt (bd a (wipeS δ vs)) (t a)) (hi1 : ∀ a, EvI Γ.q wi1 g1 (bd a (wipeS δ vs)) (m1 a) bd1 vs1) (ht1 : ∀ a c, EvB Γ.q tt1 (bd1 c (wipeS (bd a (wipeS δ vs)) vs1)) (t1 a c)) (he : ∀ a c, EvT Γ.q te (bd1 c (wipeS (bd a (wipeS δ vs)) vs1)) (e a c)) :
    EvF Γ (tLc2 wi g tt wi1 g1 tt1 te vs vs1) δ (m >>= fun xs => lcW2 t m1 t1 e xs []) := fun σ A H Q I q => by
  refine hi σ A H _ I (m.mono (fun xs q J A1 H1 s1 ok => ?_) (fun _ h => h) q)
  intro D nD
  have n0 : Γ.H0 D = none := (I.st.trans s1).none nD
  have I1 := I.step s1
  refine ⟨fun i k H => k + i = xs.length ∧ ∃ A acc, GthL Γ A1 H1 D acc A H ∧ (lcW2 t m1 t1 e (xs.drop i) acc).run (fun r => ∀ A' H', GthL Γ A1 H1 D r A' H' → Q (.ref D) H') Γ.Er,
    ⟨xs.length, rfl, A1.add D, [], ⟨[], St.newM s1.d nD, .inr rfl, fun b => s1.d.nm nD (s1.d.s D b), upd_same, .nil⟩, ?_⟩, ?_⟩
  · refine (lcW2 t m1 t1 e xs []).mono (fun r q A' H' gg => ?_) (fun _ h => h) q
    obtain ⟨ws, st, hM, hB, hD, k⟩ := gg
    exact q D ws A' H' (s1.none nD) hM hB (s1.trans st) hD k
  rintro i k H2 ⟨hk, A2, acc, g2, q2⟩
  obtain ⟨_, st2, _⟩ := id g2
  have I2 : Iv Γ A2 H2 σ δ := I1.step st2
  by_cases hi' : i < xs.length
  · obtain ⟨go, tn⟩ := ok.turn i xs[i] (List.getElem?_eq_getElem hi') A2 H2 I2.st (st2.mv s1.d)
    rw [List.drop_eq_getElem_cons hi'] at q2
    refine .inr ⟨go, fun H3 => ∃ A acc, GthL Γ A1 H1 D acc A H3 ∧ (lcW2 t m1 t1 e (xs.drop (i + 1)) acc).run (fun r => ∀ A' H', GthL Γ A1 H1 D r A' H' → Q (.ref D) H') Γ.Er, fun H3 ⟨A3, acc3, z⟩ => ⟨k - 1, by omega, by omega, A3, acc3, z⟩, fun x H' y => ?_⟩
    refine tn x H' y _ (wipeS δ vs) (wipeS_len δ vs) (I2.wipe vs) _ fun l A3 H3 el s3 I3 => ⟨wipe_sub σ vs l fun z hz => hj z (by rw [el] at hz; exact hz), ?_⟩
    have sep : ∀ (j : Nat) t, (bd xs[i] (wipeS δ vs))[j]? = some t → t.own = true → (sets (wipe σ vs) l)[j]? = some (some (.ref D)) → False := fun j t e o pj => by
      obtain ⟨nv, u, eu, ou⟩ := ownChk_ok (ho xs[i]) j t e o
      rw [Nat.zero_add] at nv
      rw [sets_out l _ (by rw [el]; exact fun z => nv (hj j z)), wipe_get, if_neg nv] at pj
      obtain ⟨p, o2, e1, _, _, _, hh, _⟩ := I1.own eu ou
      rw [pj] at e1
      cases e1
      rw [nD] at hh
      cases hh
    refine ht xs[i] _ A3 H3 _ I3.q ((t xs[i]).mono (fun b q A4 H4 s4 => ?_) (fun _ h => h) q2)
    have s34 := s3.trans s4
    cases b with
    | false => exact iteF ⟨A4, acc, g2.step s34, by simpa using q⟩
    | true =>
      refine iteT ?_
      have q' : ((m1 xs[i]).q >>= fun ys => lcW (t1 xs[i]) (e xs[i]) ys acc).run (fun acc' => (lcW2 t m1 t1 e (xs.drop (i + 1)) acc').run (fun r => ∀ A' H', GthL Γ A1 H1 D r A' H' → Q (.ref D) H') Γ.Er) Γ.Er := by simpa using q
      have I4 := I3.q.step s4
      refine hi1 xs[i] _ A4 H4 _ I4 ((m1 xs[i]).mono (fun ys q J5 A5 H5 s5 ok5 => ?_) (fun _ z => False.elim z) q')
      refine ⟨fun i2 k2 H => k2 + i2 = ys.length ∧ ∃ A acc, Mv A5 H5 A H ∧ Iv Γ.q A H (sets (wipe σ vs) l) (bd xs[i] (wipeS δ vs)) ∧ GthL Γ A1 H1 D acc A H ∧ (lcW (t1 xs[i]) (e xs[i]) (ys.drop i2) acc).run (fun acc' => (lcW2 t m1 t1 e (xs.drop (i + 1)) acc').run (fun r => ∀ A' H', GthL Γ A1 H1 D r A' H' → Q (.ref D) H') Γ.Er) Γ.Er,
        ⟨ys.length, rfl, A5, acc, Mv.refl s5.d, I4.step s5, (g2.step s34).step s5, q⟩, ?_⟩
      rintro i2 k2 H6 ⟨hk2, A6, acc6, m6, I6, g6, q6⟩
      by_cases hi2 : i2 < ys.length
      · obtain ⟨go2, tn2⟩ := ok5.turn i2 ys[i2] (List.getElem?_eq_getElem hi2) A6 H6 I6.st m6
        rw [List.drop_eq_getElem_cons hi2] at q6
        refine .inr ⟨go2, fun H7 => ∃ A acc, Mv A5 H5 A H7 ∧ Iv Γ.q A H7 (sets (wipe σ vs) l) (bd xs[i] (wipeS δ vs)) ∧ GthL Γ A1 H1 D acc A H7 ∧ (lcW (t1 xs[i]) (e xs[i]) (ys.drop (i2 + 1)) acc).run (fun acc' => (lcW2 t m1 t1 e (xs.drop (i + 1)) acc').run (fun r => ∀ A' H', GthL Γ A1 H1 D r A' H' → Q (.ref D) H') Γ.Er) Γ.Er,
          fun H7 ⟨A7, acc7, z⟩ => ⟨k2 - 1, by omega, by omega, A7, acc7, z⟩, fun x H' y => ?_⟩
        refine tn2 x H' y _ (wipeS _ vs1) (wipeS_len _ vs1) (I6.wipe vs1) _ fun l7 A7 H7 el7 s7 I7 => ⟨wipe_idem _ vs1 l7 el7, ?_⟩
        refine ht1 xs[i] ys[i2] _ A7 H7 _ I7 ((t1 xs[i] ys[i2]).mono (fun b q A8 H8 s8 => ?_) (fun _ z => False.elim z) q6)
        have s78 := s7.trans s8
        have m78 : Mv A5 H5 A8 H8 := m6.trans (s78.mv I6.dom)
        cases b with
        | false => exact iteF ⟨A8, acc6, m78, I6.step s78, g6.step s78, by simpa using q⟩
        | true =>
          refine iteT (he xs[i] ys[i2] _ A8 H8 _ (I7.step s8) ((e xs[i] ys[i2]).mono (fun y q v A9 H9 s9 r9 => ?_) (fun _ z => False.elim z) (by simpa using q)))
          have s79 := s78.trans s9
          obtain ⟨hz, q⟩ := q
          obtain ⟨ws, e1, e2, e3, e4, e5⟩ := GthL.add (Γ := Γ.q) (show GthL Γ.q A1 H1 D acc6 A9 H9 from g6.step s79) nD n0 (I6.step s79) sep r9 hz
          exact ⟨ws, e1, e2, A9, acc6 ++ [y], (m6.trans (s79.mv I6.dom)).trans e5, e4, e3, q⟩
      · have ei : i2 = ys.length := by omega
        subst ei
        rw [List.drop_length] at q6
        exact .inl ⟨ok5.stop A6 H6 I6.st m6, A6, acc6, g6, q6⟩
  · have ei : i = xs.length := by omega
    subst ei
    rw [List.drop_length] at q2
    exact .inl ⟨ok.stop A2 H2 I2.st (st2.mv s1.d), q2 A2 H2 g2⟩
end
end TW
set_option Elab.async false
set_option maxRecDepth 100000
set_option maxHeartbeats 4000000
set_option linter.all false
set_option autoImplicit false
/-! TW62: sorted of data -/
namespace TW
open Pa (rep)
open PaL (repL)
open PySem PySem.Spec PyProof.Rows L2 My
open PySem.W (EachIs AllAlike Sortable dataLe alike alikeAll sorted_data)
def rSrtD (K : PySem.W.Frag) : List V → Hp → VK → Prop := fun vs H Q => ∃ (a : Addr) (xs : List V) (ds : List PyData), vs = [V.ref a] ∧ SqL K H a xs ∧ DpAll K H xs ds ∧ AllAlike ds ∧ Sortable ds ∧ (∀ d ∈ ds, d.depth ≤ 20) ∧
  ∀ p, H p = none → Q (.ref p) (upd H p (.lst (((xs.zip ds).mergeSort (dataLe false Prod.snd)).map Prod.fst)))
theorem dpAll_len {K : PySem.W.Frag} {H : Hp} : ∀ {xs : List V} {ds : List PyData}, DpAll K H xs ds → xs.length = ds.length
  | _, _, .nil => rfl
  | _, _, .cons _ h => congrArg (· + 1) (dpAll_len h)
theorem each_zip {X : Cx} {pins : List (Addr × PySem.Obj)} {σ : L2.St} {H : Hp} {s : Shared} (I : Inv X pins σ H s) : ∀ {xs : List V} {ds : List PyData} {us : List Value}, DpAll X.K H xs ds → Vals xs us → EachIs (fun u (p : V × PyData) => RelV p.1 u) us (xs.zip ds) ∧ EachIs (fun u (p : V × PyData) => ∃ as, Reads s.heap u p.2 as) us (xs.zip ds)
  | _, _, _, .nil, .nil => ⟨.nil, .nil⟩
  | _, _, _, .cons h k, .cons r t => by
    obtain ⟨a, b⟩ := each_zip I k t
    exact ⟨.cons r a, .cons (Dp.reads I _ _ _ h r) b⟩
theorem zip_snd : ∀ {xs : List V} {ds : List PyData}, xs.length = ds.length → (xs.zip ds).map Prod.snd = ds
  | [], [], _ => rfl
  | x :: xs, d :: ds, h => by
    rw [List.zip_cons_cons, List.map_cons, zip_snd (by simpa using h)]
theorem each_vals : ∀ {us : List Value} {l : List (V × PyData)}, EachIs (fun u (p : V × PyData) => RelV p.1 u) us l → Vals (l.map Prod.fst) us
  | _, _, .nil => .nil
  | _, _, .cons h t => .cons h (each_vals t)
theorem cr_srtD {X : Cx} (hu : X.A.units + 64 < cLine) : CallR X (.builtin "sorted") (rSrtD X.K) := by
  intro pins s σ H vs us Q I r ⟨a, xs, ds, e1, hs, hd, hal, hk, hde, q⟩
  subst e1
  obtain ⟨its, rv, hl, hz⟩ := I.list hs
  rw [Vals.ref1 r]
  obtain ⟨g1, g2⟩ := each_zip I hd rv
  have zl := dpAll_len hd
  have zs := zip_snd zl
  refine sorted_data (enc := Prod.snd) (bs := xs.zip ds) (R := fun u (p : V × PyData) => RelV p.1 u) hl.isList g1 g2 (by rw [zs]; exact hal) (by rw [zs]; exact hk) (by rw [List.length_zip, ← zl, Nat.min_self]; exact hz) (fun b hb => ?_) fun out ho eo => ?_
  · have := hde b.2 (by rw [← zs]; exact List.mem_map.mpr ⟨b, hb, rfl⟩)
    omega
  · obtain ⟨ep, he'⟩ := PyProof.Rows.sortedAll_at s.heap its out.toArray
    have rv' := each_vals eo
    have hlen : (((xs.zip ds).mergeSort (dataLe false Prod.snd)).map Prod.fst).length ≤ sizeLine := by
      rw [List.length_map, List.length_mergeSort, List.length_zip, ← zl, Nat.min_self]
      exact hz
    exact ⟨.ref _, upd H (s.heap.objs.size + 1) (.lst (((xs.zip ds).mergeSort (dataLe false Prod.snd)).map Prod.fst)), I.laid (t' := s.toks) (fun _ _ => PyProof.Rows.sortedAll_old) (Nat.le_succ _) ⟨hlen, out, ep, rv', he'⟩, rfl, q _ (I.hok.fresh (Nat.le_succ _))⟩
class Dd (α : Type) [Pa α] [Dt α] where
  n : Nat
  de : ∀ a : α, (Dt.d a).depth ≤ n
class Al (α : Type) [Pa α] [Dt α] : Prop where
  al : ∀ a b : α, alike (Dt.d a) (Dt.d b) = true
class Sk (α : Type) [Pa α] [Dt α] : Prop where
  sk : (∀ a : α, ∃ x r, Dt.d a = .tuple (x :: r)) ∨ (∀ a : α, Dt.d a ≠ .none ∧ ∀ xs, Dt.d a ≠ .tuple xs)
theorem alAll2 {α : Type} [Pa α] [Dt α] [Al α] : ∀ xs ys : List α, alikeAll (xs.map Dt.d) (ys.map Dt.d) = true
  | [], _ => by simp [alikeAll]
  | _ :: _, [] => by simp [alikeAll]
  | x :: xs, y :: ys => by
    show alikeAll (Dt.d x :: xs.map Dt.d) (Dt.d y :: ys.map Dt.d) = true
    rw [alikeAll, alAll2 xs ys, Al.al]
    rfl
theorem deAll {α : Type} [Pa α] [Dt α] [Dd α] : ∀ xs : List α, PyData.depthAll (xs.map Dt.d) ≤ Dd.n α
  | [] => by simp [PyData.depthAll]
  | x :: xs => by
    show PyData.depthAll (Dt.d x :: xs.map Dt.d) ≤ _
    rw [PyData.depthAll]
    exact Nat.max_le.mpr ⟨Dd.de x, deAll xs⟩
instance : Dd Int := ⟨0, fun a => by show PyData.depth (.int a) ≤ 0; simp [PyData.depth]⟩
instance : Dd Bool := ⟨0, fun a => by show PyData.depth (.bool a) ≤ 0; simp [PyData.depth]⟩
instance : Dd Str := ⟨0, fun a => by show PyData.depth (.str a) ≤ 0; simp [PyData.depth]⟩
instance {α : Type} [Py α] [Dt α] [Dd α] : Dd (Tup α) := ⟨Dd.n α + 1, fun a => by
  show PyData.depth (.tuple (a.l.map Dt.d)) ≤ _
  have := deAll (α := α) a.l
  simp only [PyData.depth]
  omega⟩
instance {α β : Type} [Py α] [Py β] [Dt α] [Dt β] [Dd α] [Dd β] : Dd (T2 α β) := ⟨max (Dd.n α) (Dd.n β) + 1, fun t => by
  show PyData.depth (.tuple [Dt.d t.a, Dt.d t.b]) ≤ _
  have h1 := Dd.de t.a
  have h2 := Dd.de t.b
  simp only [PyData.depth, PyData.depthAll]
  omega⟩
instance : Al Int := ⟨fun a b => by show alike (.int a) (.int b) = true; simp [alike]⟩
instance : Al Bool := ⟨fun a b => by show alike (.bool a) (.bool b) = true; simp [alike]⟩
instance : Al Str := ⟨fun a b => by show alike (.str a) (.str b) = true; simp [alike]⟩
instance {α : Type} [Py α] [Dt α] [Al α] : Al (Tup α) := ⟨fun a b => by
  show alike (.tuple (a.l.map Dt.d)) (.tuple (b.l.map Dt.d)) = true
  simp only [alike]
  exact alAll2 _ _⟩
instance {α β : Type} [Py α] [Py β] [Dt α] [Dt β] [Al α] [Al β] : Al (T2 α β) := ⟨fun s t => by
  show alike (.tuple [Dt.d s.a, Dt.d s.b]) (.tuple [Dt.d t.a, Dt.d t.b]) = true
  simp [alike, alikeAll, Al.al]⟩
instance : Sk Int := ⟨.inr fun a => ⟨by show PyData.int a ≠ .none; simp, fun xs => by show PyData.int a ≠ _; simp⟩⟩
instance : Sk Str := ⟨.inr fun a => ⟨by show PyData.str a ≠ .none; simp, fun xs => by show PyData.str a ≠ _; simp⟩⟩
instance {α β : Type} [Py α] [Py β] [Dt α] [Dt β] : Sk (T2 α β) := ⟨.inl fun t => ⟨_, _, rfl⟩⟩
/-- in order -/
def srtD {α : Type} [Pa α] [Dt α] (l : List α) : List α := l.mergeSort (dataLe false Dt.d)
theorem srtD_int (l : List Int) : srtD l = l.mergeSort := by
  unfold srtD
  congr 1
  exact PySem.W.dataLe_int (fun i : Int => i)
theorem all2_zip {α : Type} [Py α] [Dt α] {R : V → α → Prop} : ∀ {vs : List V} {xs : List α}, All2 R vs xs → vs.zip (xs.map Dt.d) = (vs.zip xs).map (fun p => (p.1, Dt.d p.2))
  | _, _, .nil => rfl
  | _, _, .cons _ t => by rw [List.map_cons, List.zip_cons_cons, List.zip_cons_cons, List.map_cons, all2_zip t]
theorem all2_of_zip {α : Type} {R : V → α → Prop} : ∀ {vs : List V} {xs : List α}, All2 R vs xs → (∀ p ∈ vs.zip xs, R p.1 p.2) ∧ vs.length = xs.length
  | _, _, .nil => ⟨fun p h => by simp at h, rfl⟩
  | _, _, .cons h t => by
    obtain ⟨a, b⟩ := all2_of_zip t
    refine ⟨fun p hp => ?_, by simp [b]⟩
    rw [List.zip_cons_cons] at hp
    rcases List.mem_cons.mp hp with rfl | hp
    · exact h
    · exact a p hp
theorem all2_maps {α : Type} {R : V → α → Prop} : ∀ {l : List (V × α)}, (∀ p ∈ l, R p.1 p.2) → All2 R (l.map Prod.fst) (l.map Prod.snd)
  | [], _ => .nil
  | p :: l, h => .cons (h p List.mem_cons_self) (all2_maps fun q hq => h q (List.mem_cons_of_mem _ hq))
theorem zip_snd2 {α : Type} : ∀ {xs : List V} {ds : List α}, xs.length = ds.length → (xs.zip ds).map Prod.snd = ds
  | [], [], _ => rfl
  | x :: xs, d :: ds, h => by
    rw [List.zip_cons_cons, List.map_cons, zip_snd2 (by simpa using h)]
theorem ef_srtD {α : Type} [Py α] [Dt α] [Al α] [Dd α] [Sk α] {Γ : Cxt} {δ : List Sl} {te : TE} {m : W (Bor α)} (h : EvT Γ te δ m) (hn : Dd.n α ≤ 20 := by decide) : EvF Γ (tCB (rSrtD Γ.G.K) (tCons te tNil)) δ (m >>= fun b => (pure (srtD b.l) : W (List α))) := fun σ A H Q I q => by
  refine h σ A H _ I (m.mono (fun t q v A1 H1 s1 r1 => ?_) (fun _ h => h) q)
  obtain ⟨p, vs, rfl, hh, k⟩ := bor_sq r1
  refine ⟨p, vs, t.l.map Dt.d, rfl, hh, k.dp, AllAlike.of fun a b => Al.al a b, ?_, fun d hd => ?_, fun n np => ?_⟩
  · rcases Sk.sk (α := α) with h | h
    · exact Sortable.tuples h
    · exact Sortable.others h
  · obtain ⟨b, _, rfl⟩ := List.mem_map.mp hd
    exact Nat.le_trans (Dd.de b) hn
  · obtain ⟨z1, z2⟩ := all2_of_zip k
    have e : (vs.zip (t.l.map Dt.d)).mergeSort (dataLe false Prod.snd) = ((vs.zip t.l).mergeSort (dataLe false fun p => Dt.d p.2)).map (fun p => (p.1, Dt.d p.2)) := by
      rw [all2_zip k]
      exact (List.map_mergeSort (r := dataLe false fun p => Dt.d p.2) (s := dataLe false Prod.snd) (f := fun p : V × α => (p.1, Dt.d p.2)) (fun a _ b _ => rfl)).symm
    rw [e, List.map_map]
    have e2 : srtD t.l = ((vs.zip t.l).mergeSort (dataLe false fun p => Dt.d p.2)).map Prod.snd := by
      unfold srtD
      rw [List.map_mergeSort (r := dataLe false fun p => Dt.d p.2) (s := dataLe false Dt.d) (f := (Prod.snd : V × α → α)) (fun a _ b _ => rfl), zip_snd2 z2]
    have k2 : All2 (rep Γ.G A1 H1) (((vs.zip t.l).mergeSort (dataLe false fun p => Dt.d p.2)).map Prod.fst) (srtD t.l) := by
      rw [e2]
      exact all2_maps fun p hp => z1 p ((List.mergeSort_perm _ _).mem_iff.mp hp)
    exact fresh_lst s1 k2 np q
end TW
set_option Elab.async false
set_option maxRecDepth 100000
set_option maxHeartbeats 4000000
set_option linter.all false
set_option autoImplicit false
/-! TW63: a walk over a list or a tuple; extend with a kept list -/
namespace TW
open Pa (rep)
open PaL (repL)
open PySem PySem.Spec PyProof.Rows L2 My
def iEit (K : PySem.W.Frag) (tl : TE) : TI := fun σ H R => tl σ H fun x H1 => ∃ a, x = .ref a ∧ (((∃ xs, SqL K H1 a xs) ∧ R (Itl K a) H1) ∨ ((∃ xs, SqT K H1 a xs) ∧ R (Itt K a) H1))
theorem pi_eit {X : Cx} {tg l : Expr} {tl : TE} (hl : PE X l tl) : PI X tg l (iEit X.K tl) := by
  refine ⟨fun pins s σ H R I h => ?_⟩
  refine thn (hl.run pins s σ H _ I h) fun v s1 ⟨x, H1, I1, r1, q1⟩ => ?_
  obtain ⟨a, e, q⟩ := q1
  subst e
  cases r1
  rcases q with ⟨⟨xs, hq⟩, q⟩ | ⟨⟨xs, hq⟩, q⟩
  · obtain ⟨its, rv, p, hz⟩ := I1.list hq
    refine wpAny_pyIter_list p.isList ?_
    refine ⟨s1.heap.objs.size, [s1.heap.objs.size], _, _, H1, rfl, I1.kept (t' := s1.toks) fun b o e => Heap.get?_push_of_some _ e, turn_list a _, ⟨_, Heap.get?_push_size _ rfl, rfl, rfl⟩, fun b hb => ?_, q⟩
    have e : b = s1.heap.objs.size := by simpa using hb
    subst e
    exact I1.fpOk (Nat.le_refl _) (I1.hok.fresh (Nat.le_refl _))
  · obtain ⟨its, rv, p, hz⟩ := I1.tuple hq
    refine wpAny_pyIter_tuple (show s1.heap.IsTuple a its.toArray from p) ?_
    refine ⟨s1.heap.objs.size, [s1.heap.objs.size], _, _, H1, rfl, I1.kept (t' := s1.toks) fun b o e => Heap.get?_push_of_some _ e, turn_tuple a _, ⟨_, Heap.get?_push_size _ rfl, rfl, rfl⟩, fun b hb => ?_, q⟩
    have e : b = s1.heap.objs.size := by simpa using hb
    subst e
    exact I1.fpOk (Nat.le_refl _) (I1.hok.fresh (Nat.le_refl _))
theorem pi_eitK {X : Cx} {K : PySem.W.Frag} {tg l : Expr} {tl : TE} (h : X.K = K) (hl : PE X l tl) : PI X tg l (iEit K tl) := by subst h; exact pi_eit hl
variable {Γ : Cxt} {δ : List Sl} {α β L : Type} {te : TE} {ΔL : L → List Sl}
theorem ei_eit [Py α] {g : TG} {bd : α → List Sl → List Sl} {js : List Nat} {m : W (Sm2 (List α) (Tup α))} (h : EvT Γ te δ m) (hg : EvG Γ g bd js δ.length) : EvI Γ (iEit Γ.G.K te) g δ (m >>= fun b => (pure b.l : W (List α))) bd js := fun σ A H R I q => by
  refine h σ A H _ I (m.mono (fun b q v A1 H1 s1 r1 => ?_) (fun _ h => h) q)
  cases b with
  | a xs =>
    obtain ⟨p, vs, rfl, hh, k⟩ := r1
    have kk : ∀ A2 H2, St Γ.A0 Γ.H0 A2 H2 → Mv A1 H1 A2 H2 → SqL Γ.G.K H2 p vs ∧ All2 (rep Γ.G A2 H2) vs xs := fun A2 H2 _ mv => ⟨(hh.mv mv).sq, k.imp fun _ _ r => Py.mv r mv⟩
    refine ⟨p, rfl, .inl ⟨⟨vs, hh.sq⟩, q _ A1 H1 s1 ⟨fun A2 H2 st mv => ?_, fun i a e A2 H2 st mv => ?_⟩⟩⟩
    · obtain ⟨h1, h2⟩ := kk A2 H2 st mv
      exact ⟨vs, h1, by rw [h2.len]; exact Nat.le_refl _⟩
    · obtain ⟨h1, h2⟩ := kk A2 H2 st mv
      obtain ⟨v, e1, r⟩ := h2.get i e
      refine ⟨⟨vs, v, h1, e1⟩, fun x H' y σ2 δ2 hn I2 Q q => ?_⟩
      obtain ⟨rfl, y⟩ := y
      have := y vs h1
      rw [e1] at this; cases this
      exact hg.2 _ a A2 H' σ2 δ2 hn I2 r Q fun l el I3 => q l A2 H' el (St.refl I2.dom) I3
  | b xs =>
    obtain ⟨p, vs, rfl, hh, k⟩ := r1
    have kk : ∀ A2 H2, St Γ.A0 Γ.H0 A2 H2 → Mv A1 H1 A2 H2 → SqT Γ.G.K H2 p vs ∧ All2 (rep Γ.G A2 H2) vs xs.l := fun A2 H2 _ mv => ⟨(hh.mv mv).sq, k.imp fun _ _ r => Py.mv r mv⟩
    refine ⟨p, rfl, .inr ⟨⟨vs, hh.sq⟩, q _ A1 H1 s1 ⟨fun A2 H2 st mv => ?_, fun i a e A2 H2 st mv => ?_⟩⟩⟩
    · obtain ⟨h1, h2⟩ := kk A2 H2 st mv
      exact ⟨vs, h1, by rw [h2.len]; exact Nat.le_refl _⟩
    · obtain ⟨h1, h2⟩ := kk A2 H2 st mv
      obtain ⟨v, e1, r⟩ := h2.get i e
      refine ⟨⟨vs, v, h1, e1⟩, fun x H' y σ2 δ2 hn I2 Q q => ?_⟩
      obtain ⟨rfl, y⟩ := y
      have := y vs h1
      rw [e1] at this; cases this
      exact hg.2 _ a A2 H' σ2 δ2 hn I2 r Q fun l el I3 => q l A2 H' el (St.refl I2.dom) I3
theorem st_extB [Py α] [Pa β] {i : Nat} {xs : List α} {m : W (Bor α)} (ht : EvT Γ te δ m) (h : δ[i]? = some (.mu α xs) := by rfl) :
    StT (β := β) (L := L) Γ (tDrop (tBM Γ.G.K "list" rExtend (tVar i) (tCons te tNil))) δ (m >>= fun ys => W.need (xs.length + ys.l.length ≤ sizeLine) >>= fun _ => pure (.nx (xs ++ ys.l))) (fun a => δ.set i (.mu α a)) ΔL := fun σ A H D I q => by
  obtain ⟨o, e, p, ho, rfl, hm, b, n, hh, vs, rfl, k⟩ := I.at_ _ _ h
  refine ⟨_, e, .inl ⟨rfl, vs, .inl (.inl hh)⟩, ?_⟩
  refine ht σ A H _ I (m.mono (fun ys q w A' H' s r => ?_) (fun _ h => h) q)
  obtain ⟨p2, ws, rfl, ⟨_, hp⟩, k2⟩ := r
  have hh' := s.k p _ b hh
  refine ⟨p, p2, vs, ws, rfl, rfl, hh', ?_, by rw [k.len, k2.len]; exact q.1, ?_⟩
  · exact hp
  obtain ⟨mv, I'⟩ := (I.step s).chg (s' := .mu α (xs ++ ys.l)) (u := .lst (vs ++ ws)) h rfl (fun _ _ _ _ _ h => h) e ⟨_, rfl, (k.imp fun _ _ r => Pa.st r I.dom s).app k2⟩
  exact q.2 σ _ _ ((I.stepMv s).trans mv) I'
end TW
set_option Elab.async false
set_option maxRecDepth 100000
set_option maxHeartbeats 4000000
set_option linter.all false
set_option autoImplicit false
/-! TW64: the same inside a comprehension -/
namespace TW
open Pa (rep)
open PaL (repL)
open PySem PySem.Spec PyProof.Rows L2 My
theorem cr_srtDK {X : Cx} {K : PySem.W.Frag} (h : X.K = K) (hu : X.A.units + 64 < cLine) : CallR X (.builtin "sorted") (rSrtD K) := by subst h; exact cr_srtD hu
theorem call_tuple_ofK {X : Cx} {K : PySem.W.Frag} (h : X.K = K) : CallR X (.type "tuple") (rTupOf K) := by subst h; exact call_tuple_of
theorem call_list_ofK {X : Cx} {K : PySem.W.Frag} (h : X.K = K) : CallR X (.type "list") (rLstOf K) := by subst h; exact call_list_of
end TW
set_option Elab.async false
set_option maxRecDepth 100000
set_option maxHeartbeats 8000000
set_option linter.all false
set_option autoImplicit false
/-! programs of plain values -/
namespace TW
open Pa (rep)
open PaL (repL)
open PySem PySem.Spec PyProof.Rows L2 My

def w_l_of (a_bag_here : Bag) (a_some : (Bor Int)) : W Int := finR (S := Unit) (L := Empty) ((retW ((pure (Bor.mk a_some.l) : W (Bor Int)) >>= fun a => (((pure a_bag_here : W Bag) >>= fun a => (((pure (Bor.mk a_some.l) : W (Bor Int)) >>= fun a => (pure (a.l.length : Int) : W Int)) >>= fun a => (pure Nl.mk : W Nl) >>= fun r => (pure (Cn.mk a r) : W (Cn Int Nl))) >>= fun r => (pure (Cn.mk a r) : W (Cn Bag (Cn Int Nl)))) >>= fun t : (Cn Bag (Cn Int Nl)) => w_take t.a t.r.a) >>= fun b => W.get (atI a.l b)) : W (Res Unit Int Empty)) : W (Res Unit Int Empty))
def w_within (a_one : Int) (a_other : Int) : W Bool := finR (S := Unit) (L := Empty) ((retW (((pure a_one : W Int) >>= fun a => ((pure a_other : W Int) >>= fun a => (pure (Builtin.bitNot a) : W Int)) >>= fun b => (pure (Builtin.bitAnd a b) : W Int)) >>= fun a => (pure 0 : W Int) >>= fun b => (pure (pyEq a b) : W Bool)) : W (Res Unit Bool Empty)) : W (Res Unit Bool Empty))
end TW
set_option Elab.async false
set_option maxRecDepth 100000
set_option maxHeartbeats 8000000
set_option linter.all false
set_option autoImplicit false
/-! TWC2: the classes of the program, as values -/
namespace TW
open Pa (rep)
open PaL (repL)
open PySem PySem.Spec PyProof.Rows L2 My

structure Told where
  stuck : Stuck
instance : Obj Told := ⟨6, fun o => [⟨"stuck", Stuck, inferInstance, o.stuck⟩]⟩
instance : PyO Told := { pyObj Told with toObj := inferInstance, is := Iff.rfl }
structure NotTold where
  order : Order
instance : Obj NotTold := ⟨7, fun o => [⟨"order", Order, inferInstance, o.order⟩]⟩
instance : PyO NotTold := { pyObj NotTold with toObj := inferInstance, is := Iff.rfl }
end TW
set_option Elab.async false
set_option maxRecDepth 100000
set_option maxHeartbeats 8000000
set_option linter.all false
set_option autoImplicit false
/-! programs of plain values -/
namespace TW
open Pa (rep)
open PaL (repL)
open PySem PySem.Spec PyProof.Rows L2 My

end TW
set_option Elab.async false
set_option maxRecDepth 100000
set_option maxHeartbeats 8000000
set_option linter.all false
set_option autoImplicit false
/-! programs of plain values -/
namespace TW
open Pa (rep)
open PaL (repL)
open PySem PySem.Spec PyProof.Rows L2 My

def w_l_is_number (a_thing : Int) : W Bool := finR (S := Unit) (L := Empty) ((retW (((pure a_thing : W Int) >>= fun a => (pure true : W Bool)) >>= fun b => if b = true then (((pure a_thing : W Int) >>= fun a => (pure false : W Bool)) >>= fun b => (pure (!b) : W Bool)) else (pure false : W Bool)) : W (Res Unit Bool Empty)) : W (Res Unit Bool Empty))
end TW
set_option Elab.async false
set_option maxRecDepth 100000
set_option maxHeartbeats 8000000
set_option linter.all false
set_option autoImplicit false
/-! programs of plain values -/
namespace TW
open Pa (rep)
open PaL (repL)
open PySem PySem.Spec PyProof.Rows L2 My

end TW
set_option Elab.async false
set_option maxRecDepth 100000
set_option maxHeartbeats 8000000
set_option linter.all false
set_option autoImplicit false
/-! programs of plain values -/
namespace TW
open Pa (rep)
open PaL (repL)
open PySem PySem.Spec PyProof.Rows L2 My

end TW
set_option Elab.async false
set_option maxRecDepth 100000
set_option maxHeartbeats 8000000
set_option linter.all false
set_option autoImplicit false
/-! programs of plain values -/
namespace TW
open Pa (rep)
open PaL (repL)
open PySem PySem.Spec PyProof.Rows L2 My

end TW
set_option Elab.async false
set_option maxRecDepth 100000
set_option maxHeartbeats 8000000
set_option linter.all false
set_option autoImplicit false
/-! programs of plain values -/
namespace TW
open Pa (rep)
open PaL (repL)
open PySem PySem.Spec PyProof.Rows L2 My

def w_l_of_BagRTi (a_bag_here : Bag) (a_some : (Bor (Tup Int))) : W (Tup Int) := finR (S := Unit) (L := Empty) ((retW ((pure (Bor.mk a_some.l) : W (Bor (Tup Int))) >>= fun a => (((pure a_bag_here : W Bag) >>= fun a => (((pure (Bor.mk a_some.l) : W (Bor (Tup Int))) >>= fun a => (pure (a.l.length : Int) : W Int)) >>= fun a => (pure Nl.mk : W Nl) >>= fun r => (pure (Cn.mk a r) : W (Cn Int Nl))) >>= fun r => (pure (Cn.mk a r) : W (Cn Bag (Cn Int Nl)))) >>= fun t : (Cn Bag (Cn Int Nl)) => w_take t.a t.r.a) >>= fun b => W.get (atI a.l b)) : W (Res Unit (Tup Int) Empty)) : W (Res Unit (Tup Int) Empty))
end TW
set_option Elab.async false
set_option maxRecDepth 100000
set_option maxHeartbeats 8000000
set_option linter.all false
set_option autoImplicit false
/-! programs of plain values -/
namespace TW
open Pa (rep)
open PaL (repL)
open PySem PySem.Spec PyProof.Rows L2 My

def w_l_places_Bagi (a_bag_here : Bag) (a_many_here : Int) : W (List Int) := finR (S := Unit) (L := Empty) (seqW (S1 := (T2 (List Int) (List Int))) (setW ((((pure 12 : W Int) >>= fun j => W.need (-(2 ^ 62) ≤ j ∧ j < 2 ^ 62) >>= fun _ => (pure (rngL 0 j.toNat) : W (List Int))) >>= fun xs => W.need (xs.length ≤ sizeLine) >>= fun _ => compW (fun _ => (pure true : W Bool)) (fun (v1_x : Int) => (pure v1_x : W Int)) xs) >>= fun a => ((pure [] : W (List Int)) >>= fun xs => W.need (xs.length ≤ sizeLine) >>= fun _ => (pure xs : W (List Int))) >>= fun b => (pure (T2.mk a b) : W (T2 (List Int) (List Int))))) fun v2_s =>
    (seqW (S1 := (List Int) × (List Int)) (((pure a_many_here : W Int) >>= fun j => W.need (-(2 ^ 62) ≤ j ∧ j < 2 ^ 62) >>= fun _ => (pure (rngL 0 j.toNat) : W (List Int))) >>= fun xs => forW (fun (v3_x : Int) (v4_s : (List Int) × (List Int)) => (seqW (S1 := (T2 (List Int) (List Int))) ((((pure a_bag_here : W Bag) >>= fun a => (((pure (Bor.mk v4_s.1) : W (Bor Int)) >>= fun a => (pure (a.l.length : Int) : W Int)) >>= fun a => (pure Nl.mk : W Nl) >>= fun r => (pure (Cn.mk a r) : W (Cn Int Nl))) >>= fun r => (pure (Cn.mk a r) : W (Cn Bag (Cn Int Nl)))) >>= fun t : (Cn Bag (Cn Int Nl)) => w_take t.a t.r.a) >>= fun k => W.need (0 ≤ k ∧ k < (v4_s.1).length ∧ k < 2 ^ 63) >>= fun _ => W.need ((v4_s.2).length < sizeLine) >>= fun _ => pure (.nx (T2.mk (v4_s.2 ++ [(v4_s.1).getD k.toNat 0]) ((v4_s.1).eraseIdx k.toNat)))) fun v5_s =>
    (pure (.nx (v5_s.b, v5_s.a)) : W (Res ((List Int) × (List Int)) (List Int) ((List Int) × (List Int)))))) xs (v2_s.a, v2_s.b)) fun v6_s =>
    ((retW (((pure v6_s.2 : W (List Int)) >>= fun xs => (pure (Bor.mk xs) : W (Bor Int))) >>= fun b => (pure (srtD b.l) : W (List Int))) : W (Res Unit (List Int) Empty)) : W (Res Unit (List Int) Empty))))
def w_set_of_Ti (a_days : (Tup Int)) : W Int := finR (S := Unit) (L := Empty) (seqW (S1 := Int) (setW (pure 0 : W Int)) fun v1_s =>
    (seqW (S1 := Int) (((pure a_days : W (Tup Int)) >>= fun t => (pure t.l : W (List Int))) >>= fun xs => forW (fun (v2_x : Int) (v3_s : Int) => (seqW (S1 := Int) (setW ((pure v3_s : W Int) >>= fun a => ((pure 1 : W Int) >>= fun a => (pure v2_x : W Int) >>= fun b => (W.need (CPow a b) >>= fun _ => (pure (a * 2 ^ b.toNat) : W Int))) >>= fun b => (pure (Builtin.bitOr a b) : W Int))) fun v4_s =>
    (pure (.nx (v4_s)) : W (Res Int Int Int)))) xs (v1_s)) fun v5_s =>
    ((retW (pure v5_s : W Int) : W (Res Unit Int Empty)) : W (Res Unit Int Empty))))
def w_least_lots (a_lots : (Bor (Tup Int))) : W (Tup (Tup Int)) := finR (S := Unit) (L := Empty) (seqW (S1 := (List (Tup Int))) (setW ((pure [] : W (List (Tup Int))) >>= fun xs => W.need (xs.length ≤ sizeLine) >>= fun _ => (pure xs : W (List (Tup Int))))) fun v1_s =>
    (seqW (S1 := (List Int)) (setW ((pure [] : W (List Int)) >>= fun xs => W.need (xs.length ≤ sizeLine) >>= fun _ => (pure xs : W (List Int)))) fun v2_s =>
    (seqW (S1 := (List (Tup Int)) × (List Int)) ((pure a_lots.l : W (List (Tup Int))) >>= fun xs => forW (fun (v3_x : (Tup Int)) (v4_s : (List (Tup Int)) × (List Int)) => (seqW (S1 := Int) (setW (((pure v3_x : W (Tup Int)) >>= fun a => (pure Nl.mk : W Nl) >>= fun r => (pure (Cn.mk a r) : W (Cn (Tup Int) Nl))) >>= fun t : (Cn (Tup Int) Nl) => w_set_of_Ti t.a)) fun v5_s =>
    (seqW (S1 := (List (Tup Int)) × (List Int)) (ifW (((((pure v4_s.2 : W (List Int)) >>= fun xs => W.need (xs.length ≤ sizeLine) >>= fun _ => compW (fun _ => (pure true : W Bool)) (fun (v6_x : Int) => (((pure v6_x : W Int) >>= fun a => ((pure v5_s : W Int) >>= fun a => (pure Nl.mk : W Nl) >>= fun r => (pure (Cn.mk a r) : W (Cn Int Nl))) >>= fun r => (pure (Cn.mk a r) : W (Cn Int (Cn Int Nl)))) >>= fun t : (Cn Int (Cn Int Nl)) => w_within t.a t.r.a)) xs) >>= fun xs => (pure (Bor.mk xs) : W (Bor Bool))) >>= fun a => (pure (a.l.any id) : W Bool)) >>= fun b => (pure (!b) : W Bool)) (seqW (S1 := (List (Tup Int))) ((pure v3_x : W (Tup Int)) >>= fun a => W.need ((v4_s.1).length < sizeLine) >>= fun _ => pure (.nx (v4_s.1 ++ [a]))) fun v7_s =>
    (seqW (S1 := (List Int)) ((pure v5_s : W Int) >>= fun a => W.need ((v4_s.2).length < sizeLine) >>= fun _ => pure (.nx (v4_s.2 ++ [a]))) fun v8_s =>
    (pure (.nx (v7_s, v8_s)) : W (Res ((List (Tup Int)) × (List Int)) (Tup (Tup Int)) ((List (Tup Int)) × (List Int)))))) (pure (.nx (v4_s.1, v4_s.2)) : W (Res ((List (Tup Int)) × (List Int)) (Tup (Tup Int)) ((List (Tup Int)) × (List Int))))) fun v9_s =>
    (pure (.nx (v9_s.1, v9_s.2)) : W (Res ((List (Tup Int)) × (List Int)) (Tup (Tup Int)) ((List (Tup Int)) × (List Int))))))) xs (v1_s, v2_s)) fun v10_s =>
    ((retW (((pure v10_s.1 : W (List (Tup Int))) >>= fun xs => (pure (Bor.mk xs) : W (Bor (Tup Int)))) >>= fun a => (pure (Tup.mk a.l) : W (Tup (Tup Int)))) : W (Res Unit (Tup (Tup Int)) Empty)) : W (Res Unit (Tup (Tup Int)) Empty)))))
def w_least_sets (a_lots : (Sm2 (List (Sm2 (List Int) (Tup Int))) (Tup (Sm2 (List Int) (Tup Int))))) : W (List Int) := finR (S := Unit) (L := Empty) (seqW (S1 := (List (T2 Int (Tup Int)))) (setW (((((pure a_lots : W (Sm2 (List (Sm2 (List Int) (Tup Int))) (Tup (Sm2 (List Int) (Tup Int))))) >>= fun b => (pure b.l : W (List (Sm2 (List Int) (Tup Int))))) >>= fun xs => W.need (xs.length ≤ sizeLine) >>= fun _ => compW (fun _ => (pure true : W Bool)) (fun (v1_x : (Sm2 (List Int) (Tup Int))) => (((pure v1_x : W (Sm2 (List Int) (Tup Int))) >>= fun a => (pure (a.l.length : Int) : W Int)) >>= fun a => ((pure v1_x : W (Sm2 (List Int) (Tup Int))) >>= fun a => (pure (Tup.mk a.l) : W (Tup Int))) >>= fun b => (pure (T2.mk a b) : W (T2 Int (Tup Int))))) xs) >>= fun xs => (pure (Bor.mk xs) : W (Bor (T2 Int (Tup Int))))) >>= fun b => (pure (srtD b.l) : W (List (T2 Int (Tup Int)))))) fun v2_s =>
    ((retW (((((((pure v2_s : W (List (T2 Int (Tup Int)))) >>= fun xs => W.need (xs.length ≤ sizeLine) >>= fun _ => compW (fun _ => (pure true : W Bool)) (fun (v10_x : (T2 Int (Tup Int))) => (pure v10_x.b : W (Tup Int))) xs) >>= fun xs => (pure (Bor.mk xs) : W (Bor (Tup Int)))) >>= fun a => (pure Nl.mk : W Nl) >>= fun r => (pure (Cn.mk a r) : W (Cn (Bor (Tup Int)) Nl))) >>= fun t : (Cn (Bor (Tup Int)) Nl) => w_least_lots t.a) >>= fun t => (pure t.l : W (List (Tup Int)))) >>= fun xs => W.need (xs.length ≤ sizeLine) >>= fun _ => compW (fun _ => (pure true : W Bool)) (fun (v11_x : (Tup Int)) => (((pure v11_x : W (Tup Int)) >>= fun a => (pure Nl.mk : W Nl) >>= fun r => (pure (Cn.mk a r) : W (Cn (Tup Int) Nl))) >>= fun t : (Cn (Tup Int) Nl) => w_set_of_Ti t.a)) xs) : W (Res Unit (List Int) Empty)) : W (Res Unit (List Int) Empty)))
def w_first_behind (a_lot : (Tup Int)) : W Int := finR (S := Unit) (L := Empty) ((retW (ifW ((pure a_lot : W (Tup Int)) >>= fun a => (pure (Tr.tr a) : W Bool)) (((pure a_lot : W (Tup Int)) >>= fun a => ((pure 1 : W Int) >>= fun a => (pure (-a) : W Int)) >>= fun b => W.get (atI a.l b)) >>= fun a => (pure 1 : W Int) >>= fun b => (pure (a + b) : W Int)) (pure 0 : W Int)) : W (Res Unit Int Empty)) : W (Res Unit Int Empty))
def w_all_lots (a_many : Int) : W (List (Tup Int)) := finR (S := Unit) (L := Empty) (seqW (S1 := (List (Tup Int))) (setW ((((pure [] : W (List Int)) >>= fun xs => W.need (xs.length ≤ sizeLine) >>= fun _ => (pure (Tup.mk xs) : W (Tup Int))) >>= fun a => (pure [] : W (List (Tup Int))) >>= fun r => (pure (a :: r) : W (List (Tup Int)))) >>= fun xs => W.need (xs.length ≤ sizeLine) >>= fun _ => (pure xs : W (List (Tup Int))))) fun v1_s =>
    (seqW (S1 := (List (Tup Int))) (setW ((((pure [] : W (List Int)) >>= fun xs => W.need (xs.length ≤ sizeLine) >>= fun _ => (pure (Tup.mk xs) : W (Tup Int))) >>= fun a => (pure [] : W (List (Tup Int))) >>= fun r => (pure (a :: r) : W (List (Tup Int)))) >>= fun xs => W.need (xs.length ≤ sizeLine) >>= fun _ => (pure xs : W (List (Tup Int))))) fun v2_s =>
    (seqW (S1 := (List (Tup Int)) × (List (Tup Int))) (((pure a_many : W Int) >>= fun j => W.need (-(2 ^ 62) ≤ j ∧ j < 2 ^ 62) >>= fun _ => (pure (rngL 0 j.toNat) : W (List Int))) >>= fun xs => forW (fun (v3_x : Int) (v4_s : (List (Tup Int)) × (List (Tup Int))) => (seqW (S1 := (List (Tup Int))) (setW ((pure v4_s.2 : W (List (Tup Int))) >>= fun xs => (lcW2 (fun _ => (pure true : W Bool)) (fun (v5_x : (Tup Int)) => ((((pure v5_x : W (Tup Int)) >>= fun a => (pure Nl.mk : W Nl) >>= fun r => (pure (Cn.mk a r) : W (Cn (Tup Int) Nl))) >>= fun t : (Cn (Tup Int) Nl) => w_first_behind t.a) >>= fun i => (pure a_many : W Int) >>= fun j => W.need (-(2 ^ 62) ≤ i ∧ i < 2 ^ 62 ∧ -(2 ^ 62) ≤ j ∧ j < 2 ^ 62) >>= fun _ => (pure (rngL i (j - i).toNat) : W (List Int)))) (fun _ _ => (pure true : W Bool)) (fun (v5_x : (Tup Int)) (v6_y : Int) => ((pure v5_x : W (Tup Int)) >>= fun a => (((pure v6_y : W Int) >>= fun a => (pure [] : W (List Int)) >>= fun r => (pure (a :: r) : W (List Int))) >>= fun xs => W.need (xs.length ≤ sizeLine) >>= fun _ => (pure (Tup.mk xs) : W (Tup Int))) >>= fun b => W.need (a.l.length + b.l.length ≤ sizeLine) >>= fun _ => (pure (Tup.mk (a.l ++ b.l)) : W (Tup Int)))) xs [] : W (List (Tup Int))))) fun v7_s =>
    (seqW (S1 := (List (Tup Int))) (((pure v7_s : W (List (Tup Int))) >>= fun xs => (pure (Bor.mk xs) : W (Bor (Tup Int)))) >>= fun ys => W.need ((v4_s.1).length + ys.l.length ≤ sizeLine) >>= fun _ => pure (.nx (v4_s.1 ++ ys.l))) fun v8_s =>
    (pure (.nx (v8_s, v7_s)) : W (Res ((List (Tup Int)) × (List (Tup Int))) (List (Tup Int)) ((List (Tup Int)) × (List (Tup Int)))))))) xs (v1_s, v2_s)) fun v9_s =>
    ((pure (.rt v9_s.1) : W (Res Unit (List (Tup Int)) Empty)) : W (Res Unit (List (Tup Int)) Empty)))))
def w_meets_all (a_numbers : Int) (a_wanted : (Bor Int)) : W Bool := finR (S := Unit) (L := Empty) (seqW (S1 := Unit) ((pure a_wanted.l : W (List Int)) >>= fun xs => forW (fun (v1_x : Int) (v2_s : Unit) => (seqW (S1 := Unit) (ifW (((pure a_numbers : W Int) >>= fun a => (pure v1_x : W Int) >>= fun b => (pure (Builtin.bitAnd a b) : W Int)) >>= fun a => (pure 0 : W Int) >>= fun b => (pure (pyEq a b) : W Bool)) ((retW (pure false : W Bool) : W (Res Unit Bool Unit)) : W (Res Unit Bool Unit)) (pure (.nx ()) : W (Res Unit Bool Unit))) fun v3_s =>
    (pure (.nx ()) : W (Res Unit Bool Unit)))) xs ()) fun v4_s =>
    ((retW (pure true : W Bool) : W (Res Unit Bool Empty)) : W (Res Unit Bool Empty)))
def w_least_meeting (a_lots : (Sm2 (List (Sm2 (List Int) (Tup Int))) (Tup (Sm2 (List Int) (Tup Int))))) : W (Tup (Tup Int)) := finR (S := Unit) (L := Empty) (seqW (S1 := (List Int)) (setW (((pure a_lots : W (Sm2 (List (Sm2 (List Int) (Tup Int))) (Tup (Sm2 (List Int) (Tup Int))))) >>= fun b => (pure b.l : W (List (Sm2 (List Int) (Tup Int))))) >>= fun xs => scW2 (fun _ => (pure true : W Bool)) (fun (v1_x : (Sm2 (List Int) (Tup Int))) => ((pure v1_x : W (Sm2 (List Int) (Tup Int))) >>= fun b => (pure b.l : W (List Int)))) (fun _ _ => (pure true : W Bool)) (fun (v1_x : (Sm2 (List Int) (Tup Int))) (v2_y : Int) => (pure v2_y : W Int)) xs [] >>= fun r => W.need ((ddup r).length ≤ 60) >>= fun _ => (pure (srtU r) : W (List Int)))) fun v3_s =>
    (seqW (S1 := (List Int)) (setW (((pure a_lots : W (Sm2 (List (Sm2 (List Int) (Tup Int))) (Tup (Sm2 (List Int) (Tup Int))))) >>= fun a => (pure Nl.mk : W Nl) >>= fun r => (pure (Cn.mk a r) : W (Cn (Sm2 (List (Sm2 (List Int) (Tup Int))) (Tup (Sm2 (List Int) (Tup Int)))) Nl))) >>= fun t : (Cn (Sm2 (List (Sm2 (List Int) (Tup Int))) (Tup (Sm2 (List Int) (Tup Int)))) Nl) => w_least_sets t.a)) fun v4_s =>
    (seqW (S1 := (List (Tup Int))) (setW ((((((pure v3_s : W (List Int)) >>= fun xs => (pure (Bor.mk xs) : W (Bor Int))) >>= fun a => (pure (a.l.length : Int) : W Int)) >>= fun a => (pure Nl.mk : W Nl) >>= fun r => (pure (Cn.mk a r) : W (Cn Int Nl))) >>= fun t : (Cn Int Nl) => w_all_lots t.a) >>= fun xs => W.need (xs.length ≤ sizeLine) >>= fun _ => compW (fun _ => (pure true : W Bool)) (fun (v5_x : (Tup Int)) => (((((pure v5_x : W (Tup Int)) >>= fun t => (pure t.l : W (List Int))) >>= fun xs => W.need (xs.length ≤ sizeLine) >>= fun _ => compW (fun _ => (pure true : W Bool)) (fun (v6_x : Int) => (((pure v3_s : W (List Int)) >>= fun xs => (pure (Bor.mk xs) : W (Bor Int))) >>= fun a => (pure v6_x : W Int) >>= fun b => W.get (atI a.l b))) xs) >>= fun xs => (pure (Bor.mk xs) : W (Bor Int))) >>= fun a => (pure (Tup.mk a.l) : W (Tup Int)))) xs)) fun v7_s =>
    ((retW (((((pure v7_s : W (List (Tup Int))) >>= fun xs => W.need (xs.length ≤ sizeLine) >>= fun _ => compW (fun v9_x => (((((pure v9_x : W (Tup Int)) >>= fun a => (pure Nl.mk : W Nl) >>= fun r => (pure (Cn.mk a r) : W (Cn (Tup Int) Nl))) >>= fun t : (Cn (Tup Int) Nl) => w_set_of_Ti t.a) >>= fun a => (((pure v4_s : W (List Int)) >>= fun xs => (pure (Bor.mk xs) : W (Bor Int))) >>= fun a => (pure Nl.mk : W Nl) >>= fun r => (pure (Cn.mk a r) : W (Cn (Bor Int) Nl))) >>= fun r => (pure (Cn.mk a r) : W (Cn Int (Cn (Bor Int) Nl)))) >>= fun t : (Cn Int (Cn (Bor Int) Nl)) => w_meets_all t.a t.r.a)) (fun (v9_x : (Tup Int)) => (pure v9_x : W (Tup Int))) xs) >>= fun xs => (pure (Bor.mk xs) : W (Bor (Tup Int)))) >>= fun a => (pure Nl.mk : W Nl) >>= fun r => (pure (Cn.mk a r) : W (Cn (Bor (Tup Int)) Nl))) >>= fun t : (Cn (Bor (Tup Int)) Nl) => w_least_lots t.a) : W (Res Unit (Tup (Tup Int)) Empty)) : W (Res Unit (Tup (Tup Int)) Empty)))))
def w_l_set (a_lot_here : (Tup Int)) : W Int := finR (S := Unit) (L := Empty) ((retW (((((pure a_lot_here : W (Tup Int)) >>= fun t => (pure t.l : W (List Int))) >>= fun xs => W.need (xs.length ≤ sizeLine) >>= fun _ => compW (fun _ => (pure true : W Bool)) (fun (v1_x : Int) => ((pure 1 : W Int) >>= fun a => (pure v1_x : W Int) >>= fun b => (W.need (CPow a b) >>= fun _ => (pure (a * 2 ^ b.toNat) : W Int)))) xs) >>= fun xs => (pure (Bor.mk xs) : W (Bor Int))) >>= fun a => (pure (a.l.sum) : W Int)) : W (Res Unit Int Empty)) : W (Res Unit Int Empty))
def w_l_set_Ri (a_lot_here : (Bor Int)) : W Int := finR (S := Unit) (L := Empty) ((retW ((((pure a_lot_here.l : W (List Int)) >>= fun xs => W.need (xs.length ≤ sizeLine) >>= fun _ => compW (fun _ => (pure true : W Bool)) (fun (v1_x : Int) => ((pure 1 : W Int) >>= fun a => (pure v1_x : W Int) >>= fun b => (W.need (CPow a b) >>= fun _ => (pure (a * 2 ^ b.toNat) : W Int)))) xs) >>= fun xs => (pure (Bor.mk xs) : W (Bor Int))) >>= fun a => (pure (a.l.sum) : W Int)) : W (Res Unit Int Empty)) : W (Res Unit Int Empty))
def w_l_meeting (a_masks : (Bor Int)) (a_places_here : (Bor Int)) : W (List Int) := finR (S := Unit) (L := Empty) (seqW (S1 := (T2 Int (List Int))) (setW ((((pure (Bor.mk a_places_here.l) : W (Bor Int)) >>= fun a => (pure Nl.mk : W Nl) >>= fun r => (pure (Cn.mk a r) : W (Cn (Bor Int) Nl))) >>= fun t : (Cn (Bor Int) Nl) => w_l_set_Ri t.a) >>= fun a => ((pure [] : W (List Int)) >>= fun xs => W.need (xs.length ≤ sizeLine) >>= fun _ => (pure xs : W (List Int))) >>= fun b => (pure (T2.mk a b) : W (T2 Int (List Int))))) fun v1_s =>
    (seqW (S1 := (List Int)) ((((pure 1 : W Int) >>= fun a => ((pure (Bor.mk a_places_here.l) : W (Bor Int)) >>= fun a => (pure (a.l.length : Int) : W Int)) >>= fun b => (W.need (CPow a b) >>= fun _ => (pure (a * 2 ^ b.toNat) : W Int))) >>= fun j => W.need (-(2 ^ 62) ≤ j ∧ j < 2 ^ 62) >>= fun _ => (pure (rngL 0 j.toNat) : W (List Int))) >>= fun xs => forW (fun (v2_x : Int) (v3_s : (List Int)) => (seqW (S1 := Int) (setW (((((pure a_places_here.l : W (List Int)) >>= fun xs => (pure (enumL xs) : W (List (T2 Int Int)))) >>= fun xs => W.need (xs.length ≤ sizeLine) >>= fun _ => compW (fun v4_x => ((((pure v2_x : W Int) >>= fun a => (pure v4_x.a : W Int) >>= fun b => (W.need (0 ≤ b) >>= fun _ => (pure (a / 2 ^ b.toNat) : W Int))) >>= fun a => (pure 1 : W Int) >>= fun b => (pure (Builtin.bitAnd a b) : W Int)) >>= fun a => (pure 1 : W Int) >>= fun b => (pure (pyEq a b) : W Bool))) (fun (v4_x : (T2 Int Int)) => ((pure 1 : W Int) >>= fun a => (pure v4_x.b : W Int) >>= fun b => (W.need (CPow a b) >>= fun _ => (pure (a * 2 ^ b.toNat) : W Int)))) xs) >>= fun xs => (pure (Bor.mk xs) : W (Bor Int))) >>= fun a => (pure (a.l.sum) : W Int))) fun v5_s =>
    (seqW (S1 := Unit) (ifW (((((pure a_masks.l : W (List Int)) >>= fun xs => W.need (xs.length ≤ sizeLine) >>= fun _ => compW (fun _ => (pure true : W Bool)) (fun (v6_x : Int) => (((pure v5_s : W Int) >>= fun a => (pure v6_x : W Int) >>= fun b => (pure (Builtin.bitAnd a b) : W Int)) >>= fun a => (pure 0 : W Int) >>= fun b => (pure (!pyEq a b) : W Bool))) xs) >>= fun xs => (pure (Bor.mk xs) : W (Bor Bool))) >>= fun a => (pure (a.l.all id) : W Bool)) >>= fun b => (pure (!b) : W Bool)) ((pure (.ct (v3_s)) : W (Res Unit (List Int) (List Int))) : W (Res Unit (List Int) (List Int))) (pure (.nx ()) : W (Res Unit (List Int) (List Int)))) fun v7_s =>
    (seqW (S1 := (List Int)) (setW ((pure a_places_here.l : W (List Int)) >>= fun xs => W.need (xs.length ≤ sizeLine) >>= fun _ => compW (fun v8_x => ((((pure v5_s : W Int) >>= fun a => (pure v8_x : W Int) >>= fun b => (W.need (0 ≤ b) >>= fun _ => (pure (a / 2 ^ b.toNat) : W Int))) >>= fun a => (pure 1 : W Int) >>= fun b => (pure (Builtin.bitAnd a b) : W Int)) >>= fun a => (pure 1 : W Int) >>= fun b => (pure (pyEq a b) : W Bool))) (fun (v8_x : Int) => ((pure v5_s : W Int) >>= fun a => (((pure 1 : W Int) >>= fun a => (pure v8_x : W Int) >>= fun b => (W.need (CPow a b) >>= fun _ => (pure (a * 2 ^ b.toNat) : W Int))) >>= fun a => (pure (Builtin.bitNot a) : W Int)) >>= fun b => (pure (Builtin.bitAnd a b) : W Int))) xs)) fun v9_s =>
    (seqW (S1 := (List Int)) (ifW (((((pure v9_s : W (List Int)) >>= fun xs => W.need (xs.length ≤ sizeLine) >>= fun _ => compW (fun _ => (pure true : W Bool)) (fun (v10_x : Int) => ((((pure a_masks.l : W (List Int)) >>= fun xs => W.need (xs.length ≤ sizeLine) >>= fun _ => compW (fun _ => (pure true : W Bool)) (fun (v11_x : Int) => (((pure v10_x : W Int) >>= fun a => (pure v11_x : W Int) >>= fun b => (pure (Builtin.bitAnd a b) : W Int)) >>= fun a => (pure 0 : W Int) >>= fun b => (pure (!pyEq a b) : W Bool))) xs) >>= fun xs => (pure (Bor.mk xs) : W (Bor Bool))) >>= fun a => (pure (a.l.all id) : W Bool))) xs) >>= fun xs => (pure (Bor.mk xs) : W (Bor Bool))) >>= fun a => (pure (a.l.any id) : W Bool)) >>= fun b => (pure (!b) : W Bool)) (seqW (S1 := (List Int)) (((pure v5_s : W Int) >>= fun a => (pure v1_s.a : W Int) >>= fun b => (pure (Builtin.bitAnd a b) : W Int)) >>= fun a => W.need ((v3_s).length < sizeLine) >>= fun _ => pure (.nx (v3_s ++ [a]))) fun v12_s =>
    (pure (.nx (v12_s)) : W (Res (List Int) (List Int) (List Int)))) (pure (.nx (v3_s)) : W (Res (List Int) (List Int) (List Int)))) fun v13_s =>
    (pure (.nx (v13_s)) : W (Res (List Int) (List Int) (List Int)))))))) xs (v1_s.b)) fun v14_s =>
    ((pure (.rt v14_s) : W (Res Unit (List Int) Empty)) : W (Res Unit (List Int) Empty))))
def w_l_lot_2 (a_mask : Int) : W (Tup Int) := finR (S := Unit) (L := Empty) ((retW (((((pure 12 : W Int) >>= fun j => W.need (-(2 ^ 62) ≤ j ∧ j < 2 ^ 62) >>= fun _ => (pure (rngL 0 j.toNat) : W (List Int))) >>= fun xs => W.need (xs.length ≤ sizeLine) >>= fun _ => compW (fun v1_x => ((((pure a_mask : W Int) >>= fun a => (pure v1_x : W Int) >>= fun b => (W.need (0 ≤ b) >>= fun _ => (pure (a / 2 ^ b.toNat) : W Int))) >>= fun a => (pure 1 : W Int) >>= fun b => (pure (Builtin.bitAnd a b) : W Int)) >>= fun a => (pure 1 : W Int) >>= fun b => (pure (pyEq a b) : W Bool))) (fun (v1_x : Int) => (pure v1_x : W Int)) xs) >>= fun xs => (pure (Bor.mk xs) : W (Bor Int))) >>= fun a => (pure (Tup.mk a.l) : W (Tup Int))) : W (Res Unit (Tup Int) Empty)) : W (Res Unit (Tup Int) Empty))
def w_l_sorted (a_masks : (Bor Int)) : W (List (Tup Int)) := (((((pure a_masks.l : W (List Int)) >>= fun xs => W.need (xs.length ≤ sizeLine) >>= fun _ => compW (fun _ => (pure true : W Bool)) (fun (v2_x : Int) => (((((pure v2_x : W Int) >>= fun a => (pure Nl.mk : W Nl) >>= fun r => (pure (Cn.mk a r) : W (Cn Int Nl))) >>= fun t : (Cn Int Nl) => w_l_lot_2 t.a) >>= fun a => (pure (a.l.length : Int) : W Int)) >>= fun a => (((pure v2_x : W Int) >>= fun a => (pure Nl.mk : W Nl) >>= fun r => (pure (Cn.mk a r) : W (Cn Int Nl))) >>= fun t : (Cn Int Nl) => w_l_lot_2 t.a) >>= fun b => (pure (T2.mk a b) : W (T2 Int (Tup Int))))) xs) >>= fun xs => (pure (Bor.mk xs) : W (Bor (T2 Int (Tup Int))))) >>= fun b => (pure (srtD b.l) : W (List (T2 Int (Tup Int))))) >>= fun xs => W.need (xs.length ≤ sizeLine) >>= fun _ => compW (fun _ => (pure true : W Bool)) (fun (v3_x : (T2 Int (Tup Int))) => ((pure v3_x : W (T2 Int (Tup Int))) >>= fun t => (pure t.b : W (Tup Int)))) xs)
def w_least_sets_TTi (a_lots : (Tup (Tup Int))) : W (List Int) := finR (S := Unit) (L := Empty) (seqW (S1 := (List (T2 Int (Tup Int)))) (setW (((((pure a_lots : W (Tup (Tup Int))) >>= fun t => (pure t.l : W (List (Tup Int)))) >>= fun xs => W.need (xs.length ≤ sizeLine) >>= fun _ => compW (fun _ => (pure true : W Bool)) (fun (v1_x : (Tup Int)) => (((pure v1_x : W (Tup Int)) >>= fun a => (pure (a.l.length : Int) : W Int)) >>= fun a => ((pure v1_x : W (Tup Int)) >>= fun a => (pure a : W (Tup Int))) >>= fun b => (pure (T2.mk a b) : W (T2 Int (Tup Int))))) xs) >>= fun xs => (pure (Bor.mk xs) : W (Bor (T2 Int (Tup Int))))) >>= fun b => (pure (srtD b.l) : W (List (T2 Int (Tup Int)))))) fun v2_s =>
    ((retW (((((((pure v2_s : W (List (T2 Int (Tup Int)))) >>= fun xs => W.need (xs.length ≤ sizeLine) >>= fun _ => compW (fun _ => (pure true : W Bool)) (fun (v10_x : (T2 Int (Tup Int))) => (pure v10_x.b : W (Tup Int))) xs) >>= fun xs => (pure (Bor.mk xs) : W (Bor (Tup Int)))) >>= fun a => (pure Nl.mk : W Nl) >>= fun r => (pure (Cn.mk a r) : W (Cn (Bor (Tup Int)) Nl))) >>= fun t : (Cn (Bor (Tup Int)) Nl) => w_least_lots t.a) >>= fun t => (pure t.l : W (List (Tup Int)))) >>= fun xs => W.need (xs.length ≤ sizeLine) >>= fun _ => compW (fun _ => (pure true : W Bool)) (fun (v11_x : (Tup Int)) => (((pure v11_x : W (Tup Int)) >>= fun a => (pure Nl.mk : W Nl) >>= fun r => (pure (Cn.mk a r) : W (Cn (Tup Int) Nl))) >>= fun t : (Cn (Tup Int) Nl) => w_set_of_Ti t.a)) xs) : W (Res Unit (List Int) Empty)) : W (Res Unit (List Int) Empty)))
def w_least_meeting_TTi (a_lots : (Tup (Tup Int))) : W (Tup (Tup Int)) := finR (S := Unit) (L := Empty) (seqW (S1 := (List Int)) (setW (((pure a_lots : W (Tup (Tup Int))) >>= fun t => (pure t.l : W (List (Tup Int)))) >>= fun xs => scW2 (fun _ => (pure true : W Bool)) (fun (v1_x : (Tup Int)) => ((pure v1_x : W (Tup Int)) >>= fun t => (pure t.l : W (List Int)))) (fun _ _ => (pure true : W Bool)) (fun (v1_x : (Tup Int)) (v2_y : Int) => (pure v2_y : W Int)) xs [] >>= fun r => W.need ((ddup r).length ≤ 60) >>= fun _ => (pure (srtU r) : W (List Int)))) fun v3_s =>
    (seqW (S1 := (List Int)) (setW (((pure a_lots : W (Tup (Tup Int))) >>= fun a => (pure Nl.mk : W Nl) >>= fun r => (pure (Cn.mk a r) : W (Cn (Tup (Tup Int)) Nl))) >>= fun t : (Cn (Tup (Tup Int)) Nl) => w_least_sets_TTi t.a)) fun v4_s =>
    (seqW (S1 := (List (Tup Int))) (setW ((((((pure v3_s : W (List Int)) >>= fun xs => (pure (Bor.mk xs) : W (Bor Int))) >>= fun a => (pure (a.l.length : Int) : W Int)) >>= fun a => (pure Nl.mk : W Nl) >>= fun r => (pure (Cn.mk a r) : W (Cn Int Nl))) >>= fun t : (Cn Int Nl) => w_all_lots t.a) >>= fun xs => W.need (xs.length ≤ sizeLine) >>= fun _ => compW (fun _ => (pure true : W Bool)) (fun (v5_x : (Tup Int)) => (((((pure v5_x : W (Tup Int)) >>= fun t => (pure t.l : W (List Int))) >>= fun xs => W.need (xs.length ≤ sizeLine) >>= fun _ => compW (fun _ => (pure true : W Bool)) (fun (v6_x : Int) => (((pure v3_s : W (List Int)) >>= fun xs => (pure (Bor.mk xs) : W (Bor Int))) >>= fun a => (pure v6_x : W Int) >>= fun b => W.get (atI a.l b))) xs) >>= fun xs => (pure (Bor.mk xs) : W (Bor Int))) >>= fun a => (pure (Tup.mk a.l) : W (Tup Int)))) xs)) fun v7_s =>
    ((retW (((((pure v7_s : W (List (Tup Int))) >>= fun xs => W.need (xs.length ≤ sizeLine) >>= fun _ => compW (fun v9_x => (((((pure v9_x : W (Tup Int)) >>= fun a => (pure Nl.mk : W Nl) >>= fun r => (pure (Cn.mk a r) : W (Cn (Tup Int) Nl))) >>= fun t : (Cn (Tup Int) Nl) => w_set_of_Ti t.a) >>= fun a => (((pure v4_s : W (List Int)) >>= fun xs => (pure (Bor.mk xs) : W (Bor Int))) >>= fun a => (pure Nl.mk : W Nl) >>= fun r => (pure (Cn.mk a r) : W (Cn (Bor Int) Nl))) >>= fun r => (pure (Cn.mk a r) : W (Cn Int (Cn (Bor Int) Nl)))) >>= fun t : (Cn Int (Cn (Bor Int) Nl)) => w_meets_all t.a t.r.a)) (fun (v9_x : (Tup Int)) => (pure v9_x : W (Tup Int))) xs) >>= fun xs => (pure (Bor.mk xs) : W (Bor (Tup Int)))) >>= fun a => (pure Nl.mk : W Nl) >>= fun r => (pure (Cn.mk a r) : W (Cn (Bor (Tup Int)) Nl))) >>= fun t : (Cn (Bor (Tup Int)) Nl) => w_least_lots t.a) : W (Res Unit (Tup (Tup Int)) Empty)) : W (Res Unit (Tup (Tup Int)) Empty)))))
def w_l_barest (a_masks : (Bor Int)) : W (List Int) := finR (S := Unit) (L := Empty) (seqW (S1 := (List Int)) (setW ((pure [] : W (List Int)) >>= fun xs => W.need (xs.length ≤ sizeLine) >>= fun _ => (pure xs : W (List Int)))) fun v1_s =>
    (seqW (S1 := (List Int)) ((pure a_masks.l : W (List Int)) >>= fun xs => forW (fun (v2_x : Int) (v3_s : (List Int)) => (seqW (S1 := (List Int)) (ifW (((pure v2_x : W Int) >>= fun a => (pure (Bor.mk v3_s) : W (Bor Int)) >>= fun b => (pure (!inF a b.l) : W Bool)) >>= fun b => if b = true then (((((pure a_masks.l : W (List Int)) >>= fun xs => W.need (xs.length ≤ sizeLine) >>= fun _ => compW (fun _ => (pure true : W Bool)) (fun (v4_x : Int) => (((pure v4_x : W Int) >>= fun a => (pure v2_x : W Int) >>= fun b => (pure (!pyEq a b) : W Bool)) >>= fun b => if b = true then (((pure v4_x : W Int) >>= fun a => (pure v2_x : W Int) >>= fun b => (pure (Builtin.bitAnd a b) : W Int)) >>= fun a => (pure v4_x : W Int) >>= fun b => (pure (pyEq a b) : W Bool)) else (pure false : W Bool))) xs) >>= fun xs => (pure (Bor.mk xs) : W (Bor Bool))) >>= fun a => (pure (a.l.any id) : W Bool)) >>= fun b => (pure (!b) : W Bool)) else (pure false : W Bool)) (seqW (S1 := (List Int)) ((pure v2_x : W Int) >>= fun a => W.need ((v3_s).length < sizeLine) >>= fun _ => pure (.nx (v3_s ++ [a]))) fun v5_s =>
    (pure (.nx (v5_s)) : W (Res (List Int) (List Int) (List Int)))) (pure (.nx (v3_s)) : W (Res (List Int) (List Int) (List Int)))) fun v6_s =>
    (pure (.nx (v6_s)) : W (Res (List Int) (List Int) (List Int))))) xs (v1_s)) fun v7_s =>
    ((pure (.rt v7_s) : W (Res Unit (List Int) Empty)) : W (Res Unit (List Int) Empty))))
def w_least_sets_RTi (a_lots : (Bor (Tup Int))) : W (List Int) := finR (S := Unit) (L := Empty) (seqW (S1 := (List (T2 Int (Tup Int)))) (setW ((((pure a_lots.l : W (List (Tup Int))) >>= fun xs => W.need (xs.length ≤ sizeLine) >>= fun _ => compW (fun _ => (pure true : W Bool)) (fun (v1_x : (Tup Int)) => (((pure v1_x : W (Tup Int)) >>= fun a => (pure (a.l.length : Int) : W Int)) >>= fun a => ((pure v1_x : W (Tup Int)) >>= fun a => (pure a : W (Tup Int))) >>= fun b => (pure (T2.mk a b) : W (T2 Int (Tup Int))))) xs) >>= fun xs => (pure (Bor.mk xs) : W (Bor (T2 Int (Tup Int))))) >>= fun b => (pure (srtD b.l) : W (List (T2 Int (Tup Int)))))) fun v2_s =>
    ((retW (((((((pure v2_s : W (List (T2 Int (Tup Int)))) >>= fun xs => W.need (xs.length ≤ sizeLine) >>= fun _ => compW (fun _ => (pure true : W Bool)) (fun (v10_x : (T2 Int (Tup Int))) => (pure v10_x.b : W (Tup Int))) xs) >>= fun xs => (pure (Bor.mk xs) : W (Bor (Tup Int)))) >>= fun a => (pure Nl.mk : W Nl) >>= fun r => (pure (Cn.mk a r) : W (Cn (Bor (Tup Int)) Nl))) >>= fun t : (Cn (Bor (Tup Int)) Nl) => w_least_lots t.a) >>= fun t => (pure t.l : W (List (Tup Int)))) >>= fun xs => W.need (xs.length ≤ sizeLine) >>= fun _ => compW (fun _ => (pure true : W Bool)) (fun (v11_x : (Tup Int)) => (((pure v11_x : W (Tup Int)) >>= fun a => (pure Nl.mk : W Nl) >>= fun r => (pure (Cn.mk a r) : W (Cn (Tup Int) Nl))) >>= fun t : (Cn (Tup Int) Nl) => w_set_of_Ti t.a)) xs) : W (Res Unit (List Int) Empty)) : W (Res Unit (List Int) Empty)))
def w_least_meeting_RTi (a_lots : (Bor (Tup Int))) : W (Tup (Tup Int)) := finR (S := Unit) (L := Empty) (seqW (S1 := (List Int)) (setW ((pure a_lots.l : W (List (Tup Int))) >>= fun xs => scW2 (fun _ => (pure true : W Bool)) (fun (v1_x : (Tup Int)) => ((pure v1_x : W (Tup Int)) >>= fun t => (pure t.l : W (List Int)))) (fun _ _ => (pure true : W Bool)) (fun (v1_x : (Tup Int)) (v2_y : Int) => (pure v2_y : W Int)) xs [] >>= fun r => W.need ((ddup r).length ≤ 60) >>= fun _ => (pure (srtU r) : W (List Int)))) fun v3_s =>
    (seqW (S1 := (List Int)) (setW (((pure (Bor.mk a_lots.l) : W (Bor (Tup Int))) >>= fun a => (pure Nl.mk : W Nl) >>= fun r => (pure (Cn.mk a r) : W (Cn (Bor (Tup Int)) Nl))) >>= fun t : (Cn (Bor (Tup Int)) Nl) => w_least_sets_RTi t.a)) fun v4_s =>
    (seqW (S1 := (List (Tup Int))) (setW ((((((pure v3_s : W (List Int)) >>= fun xs => (pure (Bor.mk xs) : W (Bor Int))) >>= fun a => (pure (a.l.length : Int) : W Int)) >>= fun a => (pure Nl.mk : W Nl) >>= fun r => (pure (Cn.mk a r) : W (Cn Int Nl))) >>= fun t : (Cn Int Nl) => w_all_lots t.a) >>= fun xs => W.need (xs.length ≤ sizeLine) >>= fun _ => compW (fun _ => (pure true : W Bool)) (fun (v5_x : (Tup Int)) => (((((pure v5_x : W (Tup Int)) >>= fun t => (pure t.l : W (List Int))) >>= fun xs => W.need (xs.length ≤ sizeLine) >>= fun _ => compW (fun _ => (pure true : W Bool)) (fun (v6_x : Int) => (((pure v3_s : W (List Int)) >>= fun xs => (pure (Bor.mk xs) : W (Bor Int))) >>= fun a => (pure v6_x : W Int) >>= fun b => W.get (atI a.l b))) xs) >>= fun xs => (pure (Bor.mk xs) : W (Bor Int))) >>= fun a => (pure (Tup.mk a.l) : W (Tup Int)))) xs)) fun v7_s =>
    ((retW (((((pure v7_s : W (List (Tup Int))) >>= fun xs => W.need (xs.length ≤ sizeLine) >>= fun _ => compW (fun v9_x => (((((pure v9_x : W (Tup Int)) >>= fun a => (pure Nl.mk : W Nl) >>= fun r => (pure (Cn.mk a r) : W (Cn (Tup Int) Nl))) >>= fun t : (Cn (Tup Int) Nl) => w_set_of_Ti t.a) >>= fun a => (((pure v4_s : W (List Int)) >>= fun xs => (pure (Bor.mk xs) : W (Bor Int))) >>= fun a => (pure Nl.mk : W Nl) >>= fun r => (pure (Cn.mk a r) : W (Cn (Bor Int) Nl))) >>= fun r => (pure (Cn.mk a r) : W (Cn Int (Cn (Bor Int) Nl)))) >>= fun t : (Cn Int (Cn (Bor Int) Nl)) => w_meets_all t.a t.r.a)) (fun (v9_x : (Tup Int)) => (pure v9_x : W (Tup Int))) xs) >>= fun xs => (pure (Bor.mk xs) : W (Bor (Tup Int)))) >>= fun a => (pure Nl.mk : W Nl) >>= fun r => (pure (Cn.mk a r) : W (Cn (Bor (Tup Int)) Nl))) >>= fun t : (Cn (Bor (Tup Int)) Nl) => w_least_lots t.a) : W (Res Unit (Tup (Tup Int)) Empty)) : W (Res Unit (Tup (Tup Int)) Empty)))))
def w_l_many (a_bag_here : Bag) : W Bool := finR (S := Unit) (L := Empty) (seqW (S1 := Int) (setW (((pure a_bag_here : W Bag) >>= fun a => ((pure 12 : W Int) >>= fun a => (pure Nl.mk : W Nl) >>= fun r => (pure (Cn.mk a r) : W (Cn Int Nl))) >>= fun r => (pure (Cn.mk a r) : W (Cn Bag (Cn Int Nl)))) >>= fun t : (Cn Bag (Cn Int Nl)) => w_take t.a t.r.a)) fun v1_s =>
    (seqW (S1 := (List Int)) (setW (((pure 12 : W Int) >>= fun j => W.need (-(2 ^ 62) ≤ j ∧ j < 2 ^ 62) >>= fun _ => (pure (rngL 0 j.toNat) : W (List Int))) >>= fun xs => W.need (xs.length ≤ sizeLine) >>= fun _ => compW (fun v2_x => ((pure v2_x : W Int) >>= fun a => (pure v1_s : W Int) >>= fun b => (pure (!pyEq a b) : W Bool))) (fun (v2_x : Int) => (pure v2_x : W Int)) xs)) fun v3_s =>
    (seqW (S1 := (T2 Int (List (Tup Int)))) (setW (((pure 1 : W Int) >>= fun a => (((pure a_bag_here : W Bag) >>= fun a => ((pure 10 : W Int) >>= fun a => (pure Nl.mk : W Nl) >>= fun r => (pure (Cn.mk a r) : W (Cn Int Nl))) >>= fun r => (pure (Cn.mk a r) : W (Cn Bag (Cn Int Nl)))) >>= fun t : (Cn Bag (Cn Int Nl)) => w_take t.a t.r.a) >>= fun b => (pure (a + b) : W Int)) >>= fun a => ((pure [] : W (List (Tup Int))) >>= fun xs => W.need (xs.length ≤ sizeLine) >>= fun _ => (pure xs : W (List (Tup Int)))) >>= fun b => (pure (T2.mk a b) : W (T2 Int (List (Tup Int)))))) fun v4_s =>
    (seqW (S1 := (List (Tup Int))) (((pure 1000 : W Int) >>= fun j => W.need (-(2 ^ 62) ≤ j ∧ j < 2 ^ 62) >>= fun _ => (pure (rngL 0 j.toNat) : W (List Int))) >>= fun xs => forW (fun (v5_x : Int) (v6_s : (List (Tup Int))) => (seqW (S1 := (List (Tup Int))) ((((((((pure v1_s : W Int) >>= fun a => ((((pure v3_s : W (List Int)) >>= fun xs => (pure (Bor.mk xs) : W (Bor Int))) >>= fun a => ((((pure v5_x : W Int) >>= fun a => (pure v4_s.a : W Int) >>= fun b => (W.need (CMulW a b) >>= fun _ => (pure (a * b) : W Int))) >>= fun a => (pure a : W Int)) >>= fun a => (pure 11 : W Int) >>= fun b => (W.need (0 < b) >>= fun _ => (pure (a % b) : W Int))) >>= fun b => W.get (atI a.l b)) >>= fun a => (pure [] : W (List Int)) >>= fun r => (pure (a :: r) : W (List Int))) >>= fun r => (pure (a :: r) : W (List Int))) >>= fun xs => W.need (xs.length ≤ sizeLine) >>= fun _ => (pure xs : W (List Int))) >>= fun xs => (pure (Bor.mk xs) : W (Bor Int))) >>= fun b => (pure (srtD b.l) : W (List Int))) >>= fun xs => (pure (Bor.mk xs) : W (Bor Int))) >>= fun a => (pure (Tup.mk a.l) : W (Tup Int))) >>= fun a => W.need ((v6_s).length < sizeLine) >>= fun _ => pure (.nx (v6_s ++ [a]))) fun v7_s =>
    (pure (.nx (v7_s)) : W (Res (List (Tup Int)) Bool (List (Tup Int)))))) xs (v4_s.b)) fun v8_s =>
    ((retW ((((((pure v8_s : W (List (Tup Int))) >>= fun xs => (pure (Bor.mk xs) : W (Bor (Tup Int)))) >>= fun a => (pure Nl.mk : W Nl) >>= fun r => (pure (Cn.mk a r) : W (Cn (Bor (Tup Int)) Nl))) >>= fun t : (Cn (Bor (Tup Int)) Nl) => w_least_meeting_RTi t.a) >>= fun a => (((((pure v1_s : W Int) >>= fun a => (pure [] : W (List Int)) >>= fun r => (pure (a :: r) : W (List Int))) >>= fun xs => W.need (xs.length ≤ sizeLine) >>= fun _ => (pure (Tup.mk xs) : W (Tup Int))) >>= fun a => ((((pure v3_s : W (List Int)) >>= fun xs => (pure (Bor.mk xs) : W (Bor Int))) >>= fun a => (pure (Tup.mk a.l) : W (Tup Int))) >>= fun a => (pure [] : W (List (Tup Int))) >>= fun r => (pure (a :: r) : W (List (Tup Int)))) >>= fun r => (pure (a :: r) : W (List (Tup Int)))) >>= fun xs => W.need (xs.length ≤ sizeLine) >>= fun _ => (pure (Tup.mk xs) : W (Tup (Tup Int)))) >>= fun b => (W.need (shd a ∧ shd b) >>= fun _ => (pure (dtEq a b) : W Bool))) >>= fun b => if b = true then ((((pure v8_s : W (List (Tup Int))) >>= fun xs => (pure (Bor.mk xs) : W (Bor (Tup Int)))) >>= fun a => (pure (a.l.length : Int) : W Int)) >>= fun a => (pure 1000 : W Int) >>= fun b => (pure (pyEq a b) : W Bool)) else (pure false : W Bool)) : W (Res Unit Bool Empty)) : W (Res Unit Bool Empty))))))
def w_law_11 (a_script : Scr) : W Bool := finR (S := Unit) (L := Empty) (seqW (S1 := Bag) (setW (((pure a_script : W Scr) >>= fun a => ((pure 0 : W Int) >>= fun a => (pure Nl.mk : W Nl) >>= fun r => (pure (Cn.mk a r) : W (Cn Int Nl))) >>= fun r => (pure (Cn.mk a r) : W (Cn Scr (Cn Int Nl)))) >>= fun t : (Cn Scr (Cn Int Nl)) => w_bag t.a t.r.a)) fun v1_s =>
    (seqW (S1 := Bool) (setW ((((pure v1_s : W Bag) >>= fun a => ((pure 16 : W Int) >>= fun a => (pure Nl.mk : W Nl) >>= fun r => (pure (Cn.mk a r) : W (Cn Int Nl))) >>= fun r => (pure (Cn.mk a r) : W (Cn Bag (Cn Int Nl)))) >>= fun t : (Cn Bag (Cn Int Nl)) => w_take t.a t.r.a) >>= fun a => (pure 0 : W Int) >>= fun b => (pure (pyEq a b) : W Bool))) fun v2_s =>
    (seqW (S1 := (List Int)) (setW (((pure v1_s : W Bag) >>= fun a => ((ifW (pure v2_s : W Bool) (pure 9 : W Int) ((pure 1 : W Int) >>= fun a => (((pure v1_s : W Bag) >>= fun a => ((pure 7 : W Int) >>= fun a => (pure Nl.mk : W Nl) >>= fun r => (pure (Cn.mk a r) : W (Cn Int Nl))) >>= fun r => (pure (Cn.mk a r) : W (Cn Bag (Cn Int Nl)))) >>= fun t : (Cn Bag (Cn Int Nl)) => w_take t.a t.r.a) >>= fun b => (pure (a + b) : W Int))) >>= fun a => (pure Nl.mk : W Nl) >>= fun r => (pure (Cn.mk a r) : W (Cn Int Nl))) >>= fun r => (pure (Cn.mk a r) : W (Cn Bag (Cn Int Nl)))) >>= fun t : (Cn Bag (Cn Int Nl)) => w_l_places_Bagi t.a t.r.a)) fun v3_s =>
    (seqW (S1 := (T2 (List (Tup Int)) Bag)) (setW (((pure [] : W (List (Tup Int))) >>= fun xs => W.need (xs.length ≤ sizeLine) >>= fun _ => (pure xs : W (List (Tup Int)))) >>= fun a => (((pure a_script : W Scr) >>= fun a => ((pure 1 : W Int) >>= fun a => (pure Nl.mk : W Nl) >>= fun r => (pure (Cn.mk a r) : W (Cn Int Nl))) >>= fun r => (pure (Cn.mk a r) : W (Cn Scr (Cn Int Nl)))) >>= fun t : (Cn Scr (Cn Int Nl)) => w_bag t.a t.r.a) >>= fun b => (pure (T2.mk a b) : W (T2 (List (Tup Int)) Bag)))) fun v4_s =>
    (seqW (S1 := (List (Tup Int))) (((((pure v4_s.b : W Bag) >>= fun a => ((ifW (pure v2_s : W Bool) (pure 13 : W Int) (pure 9 : W Int)) >>= fun a => (pure Nl.mk : W Nl) >>= fun r => (pure (Cn.mk a r) : W (Cn Int Nl))) >>= fun r => (pure (Cn.mk a r) : W (Cn Bag (Cn Int Nl)))) >>= fun t : (Cn Bag (Cn Int Nl)) => w_take t.a t.r.a) >>= fun j => W.need (-(2 ^ 62) ≤ j ∧ j < 2 ^ 62) >>= fun _ => (pure (rngL 0 j.toNat) : W (List Int))) >>= fun xs => forW (fun (v5_x : Int) (v6_s : (List (Tup Int))) => (seqW (S1 := Int) (setW ((((pure v4_s.b : W Bag) >>= fun a => (((pure 1 : W Int) >>= fun a => (((pure v3_s : W (List Int)) >>= fun xs => (pure (Bor.mk xs) : W (Bor Int))) >>= fun a => (pure (a.l.length : Int) : W Int)) >>= fun b => (W.need (CPow a b) >>= fun _ => (pure (a * 2 ^ b.toNat) : W Int))) >>= fun a => (pure Nl.mk : W Nl) >>= fun r => (pure (Cn.mk a r) : W (Cn Int Nl))) >>= fun r => (pure (Cn.mk a r) : W (Cn Bag (Cn Int Nl)))) >>= fun t : (Cn Bag (Cn Int Nl)) => w_take t.a t.r.a) >>= fun a => (((pure v4_s.b : W Bag) >>= fun a => (((((pure 4095 : W Int) >>= fun a => ((pure 4095 : W Int) >>= fun a => ((((pure v4_s.b : W Bag) >>= fun a => (((pure 1 : W Int) >>= fun a => (((pure v3_s : W (List Int)) >>= fun xs => (pure (Bor.mk xs) : W (Bor Int))) >>= fun a => (pure (a.l.length : Int) : W Int)) >>= fun b => (W.need (CPow a b) >>= fun _ => (pure (a * 2 ^ b.toNat) : W Int))) >>= fun a => (pure Nl.mk : W Nl) >>= fun r => (pure (Cn.mk a r) : W (Cn Int Nl))) >>= fun r => (pure (Cn.mk a r) : W (Cn Bag (Cn Int Nl)))) >>= fun t : (Cn Bag (Cn Int Nl)) => w_take t.a t.r.a) >>= fun a => (pure [] : W (List Int)) >>= fun r => (pure (a :: r) : W (List Int))) >>= fun r => (pure (a :: r) : W (List Int))) >>= fun r => (pure (a :: r) : W (List Int))) >>= fun xs => W.need (xs.length ≤ sizeLine) >>= fun _ => (pure xs : W (List Int))) >>= fun xs => (pure (Bor.mk xs) : W (Bor Int))) >>= fun a => (pure Nl.mk : W Nl) >>= fun r => (pure (Cn.mk a r) : W (Cn (Bor Int) Nl))) >>= fun r => (pure (Cn.mk a r) : W (Cn Bag (Cn (Bor Int) Nl)))) >>= fun t : (Cn Bag (Cn (Bor Int) Nl)) => w_l_of t.a t.r.a) >>= fun b => (pure (Builtin.bitAnd a b) : W Int))) fun v7_s =>
    (seqW (S1 := Int) (ifW (((pure v7_s : W Int) >>= fun a => (pure 0 : W Int) >>= fun b => (pure (pyEq a b) : W Bool)) >>= fun b => if b = true then ((((pure v4_s.b : W Bag) >>= fun a => ((pure 4 : W Int) >>= fun a => (pure Nl.mk : W Nl) >>= fun r => (pure (Cn.mk a r) : W (Cn Int Nl))) >>= fun r => (pure (Cn.mk a r) : W (Cn Bag (Cn Int Nl)))) >>= fun t : (Cn Bag (Cn Int Nl)) => w_take t.a t.r.a) >>= fun a => (pure 0 : W Int) >>= fun b => (pure (decide (b < a)) : W Bool)) else (pure false : W Bool)) (seqW (S1 := Int) (setW ((pure 1 : W Int) >>= fun a => (((pure v4_s.b : W Bag) >>= fun a => ((((pure v3_s : W (List Int)) >>= fun xs => (pure (Bor.mk xs) : W (Bor Int))) >>= fun a => (pure (a.l.length : Int) : W Int)) >>= fun a => (pure Nl.mk : W Nl) >>= fun r => (pure (Cn.mk a r) : W (Cn Int Nl))) >>= fun r => (pure (Cn.mk a r) : W (Cn Bag (Cn Int Nl)))) >>= fun t : (Cn Bag (Cn Int Nl)) => w_take t.a t.r.a) >>= fun b => (W.need (CPow a b) >>= fun _ => (pure (a * 2 ^ b.toNat) : W Int)))) fun v8_s =>
    (pure (.nx (v8_s)) : W (Res Int Bool (List (Tup Int))))) (pure (.nx (v7_s)) : W (Res Int Bool (List (Tup Int))))) fun v9_s =>
    (seqW (S1 := (List (Tup Int))) (ifW (((pure (Bor.mk v6_s) : W (Bor (Tup Int))) >>= fun a => (((pure [] : W (List (Tup Int))) >>= fun xs => W.need (xs.length ≤ sizeLine) >>= fun _ => (pure xs : W (List (Tup Int)))) >>= fun xs => (pure (Bor.mk xs) : W (Bor (Tup Int)))) >>= fun b => (W.need (shd a ∧ shd b) >>= fun _ => (pure (!dtEq a b) : W Bool))) >>= fun b => if b = true then ((((pure v4_s.b : W Bag) >>= fun a => ((pure 6 : W Int) >>= fun a => (pure Nl.mk : W Nl) >>= fun r => (pure (Cn.mk a r) : W (Cn Int Nl))) >>= fun r => (pure (Cn.mk a r) : W (Cn Bag (Cn Int Nl)))) >>= fun t : (Cn Bag (Cn Int Nl)) => w_take t.a t.r.a) >>= fun a => (pure 0 : W Int) >>= fun b => (pure (pyEq a b) : W Bool)) else (pure false : W Bool)) (seqW (S1 := (List (Tup Int))) ((((pure v4_s.b : W Bag) >>= fun a => ((pure (Bor.mk v6_s) : W (Bor (Tup Int))) >>= fun a => (pure Nl.mk : W Nl) >>= fun r => (pure (Cn.mk a r) : W (Cn (Bor (Tup Int)) Nl))) >>= fun r => (pure (Cn.mk a r) : W (Cn Bag (Cn (Bor (Tup Int)) Nl)))) >>= fun t : (Cn Bag (Cn (Bor (Tup Int)) Nl)) => w_l_of_BagRTi t.a t.r.a) >>= fun a => W.need ((v6_s).length < sizeLine) >>= fun _ => pure (.nx (v6_s ++ [a]))) fun v10_s =>
    (pure (.nx (v10_s)) : W (Res (List (Tup Int)) Bool (List (Tup Int))))) (seqW (S1 := (List (Tup Int))) ((((((pure v3_s : W (List Int)) >>= fun xs => (pure (enumL xs) : W (List (T2 Int Int)))) >>= fun xs => W.need (xs.length ≤ sizeLine) >>= fun _ => compW (fun v11_x => ((((pure v9_s : W Int) >>= fun a => (pure v11_x.a : W Int) >>= fun b => (W.need (0 ≤ b) >>= fun _ => (pure (a / 2 ^ b.toNat) : W Int))) >>= fun a => (pure 1 : W Int) >>= fun b => (pure (Builtin.bitAnd a b) : W Int)) >>= fun a => (pure 1 : W Int) >>= fun b => (pure (pyEq a b) : W Bool))) (fun (v11_x : (T2 Int Int)) => (pure v11_x.b : W Int)) xs) >>= fun xs => (pure (Bor.mk xs) : W (Bor Int))) >>= fun a => (pure (Tup.mk a.l) : W (Tup Int))) >>= fun a => W.need ((v6_s).length < sizeLine) >>= fun _ => pure (.nx (v6_s ++ [a]))) fun v12_s =>
    (pure (.nx (v12_s)) : W (Res (List (Tup Int)) Bool (List (Tup Int)))))) fun v13_s =>
    (pure (.nx (v13_s)) : W (Res (List (Tup Int)) Bool (List (Tup Int)))))))) xs (v4_s.a)) fun v14_s =>
    (seqW (S1 := (List (Sm2 (List Int) (Tup Int)))) (setW ((pure v14_s : W (List (Tup Int))) >>= fun xs => W.need (xs.length ≤ sizeLine) >>= fun _ => compW (fun _ => (pure true : W Bool)) (fun (v15_x : (Tup Int)) => (ifW ((((pure v4_s.b : W Bag) >>= fun a => ((pure 3 : W Int) >>= fun a => (pure Nl.mk : W Nl) >>= fun r => (pure (Cn.mk a r) : W (Cn Int Nl))) >>= fun r => (pure (Cn.mk a r) : W (Cn Bag (Cn Int Nl)))) >>= fun t : (Cn Bag (Cn Int Nl)) => w_take t.a t.r.a) >>= fun a => (pure 0 : W Int) >>= fun b => (pure (pyEq a b) : W Bool)) (((pure v15_x : W (Tup Int)) >>= fun b => (pure b.l : W (List Int))) >>= fun a => (pure (Sm2.a a) : W (Sm2 (List Int) (Tup Int)))) ((pure v15_x : W (Tup Int)) >>= fun a => (pure (Sm2.b a) : W (Sm2 (List Int) (Tup Int)))))) xs)) fun v16_s =>
    (seqW (S1 := (List (List Int))) (setW ((pure v16_s : W (List (Sm2 (List Int) (Tup Int)))) >>= fun xs => W.need (xs.length ≤ sizeLine) >>= fun _ => compW (fun _ => (pure true : W Bool)) (fun (v17_x : (Sm2 (List Int) (Tup Int))) => ((pure v17_x : W (Sm2 (List Int) (Tup Int))) >>= fun b => (pure b.l : W (List Int)))) xs)) fun v18_s =>
    (seqW (S1 := (Sm2 (List (Sm2 (List Int) (Tup Int))) (Tup (Sm2 (List Int) (Tup Int))))) (setW (ifW ((((pure v4_s.b : W Bag) >>= fun a => ((pure 2 : W Int) >>= fun a => (pure Nl.mk : W Nl) >>= fun r => (pure (Cn.mk a r) : W (Cn Int Nl))) >>= fun r => (pure (Cn.mk a r) : W (Cn Bag (Cn Int Nl)))) >>= fun t : (Cn Bag (Cn Int Nl)) => w_take t.a t.r.a) >>= fun a => (pure 0 : W Int) >>= fun b => (pure (pyEq a b) : W Bool)) ((pure v16_s : W (List (Sm2 (List Int) (Tup Int)))) >>= fun a => (pure (Sm2.a a) : W (Sm2 (List (Sm2 (List Int) (Tup Int))) (Tup (Sm2 (List Int) (Tup Int)))))) ((((pure v16_s : W (List (Sm2 (List Int) (Tup Int)))) >>= fun xs => (pure (Bor.mk xs) : W (Bor (Sm2 (List Int) (Tup Int))))) >>= fun a => (pure (Tup.mk a.l) : W (Tup (Sm2 (List Int) (Tup Int))))) >>= fun a => (pure (Sm2.b a) : W (Sm2 (List (Sm2 (List Int) (Tup Int))) (Tup (Sm2 (List Int) (Tup Int)))))))) fun v19_s =>
    (seqW (S1 := (Tup (Tup Int))) (setW (((pure v19_s : W (Sm2 (List (Sm2 (List Int) (Tup Int))) (Tup (Sm2 (List Int) (Tup Int))))) >>= fun a => (pure Nl.mk : W Nl) >>= fun r => (pure (Cn.mk a r) : W (Cn (Sm2 (List (Sm2 (List Int) (Tup Int))) (Tup (Sm2 (List Int) (Tup Int)))) Nl))) >>= fun t : (Cn (Sm2 (List (Sm2 (List Int) (Tup Int))) (Tup (Sm2 (List Int) (Tup Int)))) Nl) => w_least_meeting t.a)) fun v20_s =>
    (seqW (S1 := (List Int)) (setW ((pure v14_s : W (List (Tup Int))) >>= fun xs => W.need (xs.length ≤ sizeLine) >>= fun _ => compW (fun _ => (pure true : W Bool)) (fun (v21_x : (Tup Int)) => (((pure v21_x : W (Tup Int)) >>= fun a => (pure Nl.mk : W Nl) >>= fun r => (pure (Cn.mk a r) : W (Cn (Tup Int) Nl))) >>= fun t : (Cn (Tup Int) Nl) => w_l_set t.a)) xs)) fun v22_s =>
    (seqW (S1 := Unit) (ifW ((((pure v20_s : W (Tup (Tup Int))) >>= fun a => (pure true : W Bool)) >>= fun b => (pure (!b) : W Bool)) >>= fun b => if b = true then (pure true : W Bool) else ((((((pure v20_s : W (Tup (Tup Int))) >>= fun t => (pure t.l : W (List (Tup Int)))) >>= fun xs => W.need (xs.length ≤ sizeLine) >>= fun _ => compW (fun _ => (pure true : W Bool)) (fun (v23_x : (Tup Int)) => ((pure v23_x : W (Tup Int)) >>= fun a => (pure true : W Bool))) xs) >>= fun xs => (pure (Bor.mk xs) : W (Bor Bool))) >>= fun a => (pure (a.l.all id) : W Bool)) >>= fun b => (pure (!b) : W Bool))) ((retW (pure false : W Bool) : W (Res Unit Bool Empty)) : W (Res Unit Bool Empty)) (pure (.nx ()) : W (Res Unit Bool Empty))) fun v24_s =>
    (seqW (S1 := Unit) (((pure v20_s : W (Tup (Tup Int))) >>= fun t => (pure t.l : W (List (Tup Int)))) >>= fun xs => forW (fun (v25_x : (Tup Int)) (v26_s : Unit) => (seqW (S1 := Unit) (ifW ((((((pure v25_x : W (Tup Int)) >>= fun t => (pure t.l : W (List Int))) >>= fun xs => W.need (xs.length ≤ sizeLine) >>= fun _ => compW (fun _ => (pure true : W Bool)) (fun (v27_x : Int) => (((pure v27_x : W Int) >>= fun a => (pure Nl.mk : W Nl) >>= fun r => (pure (Cn.mk a r) : W (Cn Int Nl))) >>= fun t : (Cn Int Nl) => w_l_is_number t.a)) xs) >>= fun xs => (pure (Bor.mk xs) : W (Bor Bool))) >>= fun a => (pure (a.l.all id) : W Bool)) >>= fun b => (pure (!b) : W Bool)) ((retW (pure false : W Bool) : W (Res Unit Bool Unit)) : W (Res Unit Bool Unit)) (pure (.nx ()) : W (Res Unit Bool Unit))) fun v28_s =>
    (pure (.nx ()) : W (Res Unit Bool Unit)))) xs ()) fun v29_s =>
    (seqW (S1 := Unit) (ifW ((((pure v20_s : W (Tup (Tup Int))) >>= fun b => (pure b.l : W (List (Tup Int)))) >>= fun xs => (pure (Bor.mk xs) : W (Bor (Tup Int)))) >>= fun a => ((((((((pure v22_s : W (List Int)) >>= fun xs => (pure (Bor.mk xs) : W (Bor Int))) >>= fun a => (((pure v3_s : W (List Int)) >>= fun xs => (pure (Bor.mk xs) : W (Bor Int))) >>= fun a => (pure Nl.mk : W Nl) >>= fun r => (pure (Cn.mk a r) : W (Cn (Bor Int) Nl))) >>= fun r => (pure (Cn.mk a r) : W (Cn (Bor Int) (Cn (Bor Int) Nl)))) >>= fun t : (Cn (Bor Int) (Cn (Bor Int) Nl)) => w_l_meeting t.a t.r.a) >>= fun xs => (pure (Bor.mk xs) : W (Bor Int))) >>= fun a => (pure Nl.mk : W Nl) >>= fun r => (pure (Cn.mk a r) : W (Cn (Bor Int) Nl))) >>= fun t : (Cn (Bor Int) Nl) => w_l_sorted t.a) >>= fun xs => (pure (Bor.mk xs) : W (Bor (Tup Int)))) >>= fun b => (W.need (shd a ∧ shd b) >>= fun _ => (pure (!dtEq a b) : W Bool))) ((retW (pure false : W Bool) : W (Res Unit Bool Empty)) : W (Res Unit Bool Empty)) (pure (.nx ()) : W (Res Unit Bool Empty))) fun v30_s =>
    (seqW (S1 := Unit) (ifW (((((pure v16_s : W (List (Sm2 (List Int) (Tup Int)))) >>= fun xs => W.need (xs.length ≤ sizeLine) >>= fun _ => compW (fun _ => (pure true : W Bool)) (fun (v32_x : (Sm2 (List Int) (Tup Int))) => ((pure v32_x : W (Sm2 (List Int) (Tup Int))) >>= fun b => (pure b.l : W (List Int)))) xs) >>= fun xs => (pure (Bor.mk xs) : W (Bor (List Int)))) >>= fun a => ((pure v18_s : W (List (List Int))) >>= fun xs => (pure (Bor.mk xs) : W (Bor (List Int)))) >>= fun b => (W.need (shd a ∧ shd b) >>= fun _ => (pure (!dtEq a b) : W Bool))) >>= fun b => if b = true then (pure true : W Bool) else (((pure v19_s : W (Sm2 (List (Sm2 (List Int) (Tup Int))) (Tup (Sm2 (List Int) (Tup Int))))) >>= fun a => (pure (a.l.length : Int) : W Int)) >>= fun a => (((pure v14_s : W (List (Tup Int))) >>= fun xs => (pure (Bor.mk xs) : W (Bor (Tup Int)))) >>= fun a => (pure (a.l.length : Int) : W Int)) >>= fun b => (pure (!pyEq a b) : W Bool))) ((retW (pure false : W Bool) : W (Res Unit Bool Empty)) : W (Res Unit Bool Empty)) (pure (.nx ()) : W (Res Unit Bool Empty))) fun v33_s =>
    (seqW (S1 := Unit) (ifW ((((((pure v20_s : W (Tup (Tup Int))) >>= fun a => (pure Nl.mk : W Nl) >>= fun r => (pure (Cn.mk a r) : W (Cn (Tup (Tup Int)) Nl))) >>= fun t : (Cn (Tup (Tup Int)) Nl) => w_least_meeting_TTi t.a) >>= fun b => (pure b.l : W (List (Tup Int)))) >>= fun xs => (pure (Bor.mk xs) : W (Bor (Tup Int)))) >>= fun a => ((((((((pure v22_s : W (List Int)) >>= fun xs => (pure (Bor.mk xs) : W (Bor Int))) >>= fun a => (pure Nl.mk : W Nl) >>= fun r => (pure (Cn.mk a r) : W (Cn (Bor Int) Nl))) >>= fun t : (Cn (Bor Int) Nl) => w_l_barest t.a) >>= fun xs => (pure (Bor.mk xs) : W (Bor Int))) >>= fun a => (pure Nl.mk : W Nl) >>= fun r => (pure (Cn.mk a r) : W (Cn (Bor Int) Nl))) >>= fun t : (Cn (Bor Int) Nl) => w_l_sorted t.a) >>= fun xs => (pure (Bor.mk xs) : W (Bor (Tup Int)))) >>= fun b => (W.need (shd a ∧ shd b) >>= fun _ => (pure (!dtEq a b) : W Bool))) ((retW (pure false : W Bool) : W (Res Unit Bool Empty)) : W (Res Unit Bool Empty)) (pure (.nx ()) : W (Res Unit Bool Empty))) fun v34_s =>
    ((retW (((((pure v4_s.b : W Bag) >>= fun a => ((pure 12 : W Int) >>= fun a => (pure Nl.mk : W Nl) >>= fun r => (pure (Cn.mk a r) : W (Cn Int Nl))) >>= fun r => (pure (Cn.mk a r) : W (Cn Bag (Cn Int Nl)))) >>= fun t : (Cn Bag (Cn Int Nl)) => w_take t.a t.r.a) >>= fun a => (pure 0 : W Int) >>= fun b => (pure (decide (b < a)) : W Bool)) >>= fun b => if b = true then (pure true : W Bool) else (((pure v4_s.b : W Bag) >>= fun a => (pure Nl.mk : W Nl) >>= fun r => (pure (Cn.mk a r) : W (Cn Bag Nl))) >>= fun t : (Cn Bag Nl) => w_l_many t.a)) : W (Res Unit Bool Empty)) : W (Res Unit Bool Empty)))))))))))))))))
end TW
set_option Elab.async false
set_option maxRecDepth 100000
set_option maxHeartbeats 8000000
set_option linter.all false
set_option autoImplicit false

namespace TW
open Pa (rep)
open PaL (repL)
open PySem PySem.Spec PyProof.Rows L2 My

def top (i : Nat) : Stmt := PySem.Challenge.pw_usualdays_k79_least_meeting_lots.main.body.getD i (.Pass ⟨0, 0, 0, 0⟩)
-- _law_bag
abbrev s_l_bag : Stmt := top 12
abbrev N_l_bag : List Str := ["_law_script", "_law_at", "_law_cell", "_law_mix", "_law_k", "_law_each"]
theorem sc_l_bag : FnScope N_l_bag ["_law_script", "_law_at"] (defScope s_l_bag) := ⟨rfl, rfl, rfl, by decide +kernel, rfl, by decide +kernel, by decide +kernel⟩
-- _law_take
abbrev s_l_take : Stmt := top 13
abbrev N_l_take : List Str := ["_law_bag_here", "_law_many_here", "_law_digit"]
theorem sc_l_take : FnScope N_l_take ["_law_bag_here", "_law_many_here"] (defScope s_l_take) := ⟨rfl, rfl, rfl, by decide +kernel, rfl, by decide +kernel, by decide +kernel⟩
-- _law_places
abbrev s_l_places : Stmt := top 19
abbrev N_l_places : List Str := ["_law_bag_here", "_law_many_here", "_law_left", "_law_found", "_law_k", "_law_number"]
theorem sc_l_places : FnScope N_l_places ["_law_bag_here", "_law_many_here"] (defScope s_l_places) := ⟨rfl, rfl, rfl, by decide +kernel, rfl, by decide +kernel, by decide +kernel⟩
-- _law_of
abbrev s_l_of : Stmt := top 14
abbrev N_l_of : List Str := ["_law_bag_here", "_law_some"]
theorem sc_l_of : FnScope N_l_of ["_law_bag_here", "_law_some"] (defScope s_l_of) := ⟨rfl, rfl, rfl, by decide +kernel, rfl, by decide +kernel, by decide +kernel⟩
-- set_of
abbrev s_set_of : Stmt := top 1
abbrev N_set_of : List Str := ["days", "day_set", "day"]
theorem sc_set_of : FnScope N_set_of ["days"] (defScope s_set_of) := ⟨rfl, rfl, rfl, by decide +kernel, rfl, by decide +kernel, by decide +kernel⟩
-- within
abbrev s_within : Stmt := top 2
abbrev N_within : List Str := ["one", "other"]
theorem sc_within : FnScope N_within ["one", "other"] (defScope s_within) := ⟨rfl, rfl, rfl, by decide +kernel, rfl, by decide +kernel, by decide +kernel⟩
-- least_lots
abbrev s_least_lots : Stmt := top 6
abbrev N_least_lots : List Str := ["lots", "least", "bits", "lot", "lot_bits", "smaller"]
theorem sc_least_lots : FnScope N_least_lots ["lots"] (defScope s_least_lots) := ⟨rfl, rfl, rfl, by decide +kernel, rfl, by decide +kernel, by decide +kernel⟩
-- least_sets
abbrev s_least_sets : Stmt := top 9
abbrev N_least_sets : List Str := ["lots", "shorter_first", "lot", "_"]
theorem sc_least_sets : FnScope N_least_sets ["lots"] (defScope s_least_sets) := ⟨rfl, rfl, rfl, by decide +kernel, rfl, by decide +kernel, by decide +kernel⟩
-- first_behind
abbrev s_first_behind : Stmt := top 5
abbrev N_first_behind : List Str := ["lot"]
theorem sc_first_behind : FnScope N_first_behind ["lot"] (defScope s_first_behind) := ⟨rfl, rfl, rfl, by decide +kernel, rfl, by decide +kernel, by decide +kernel⟩
-- all_lots
abbrev s_all_lots : Stmt := top 4
abbrev N_all_lots : List Str := ["many", "lots", "longest", "_", "lot", "number"]
theorem sc_all_lots : FnScope N_all_lots ["many"] (defScope s_all_lots) := ⟨rfl, rfl, rfl, by decide +kernel, rfl, by decide +kernel, by decide +kernel⟩
-- meets_all
abbrev s_meets_all : Stmt := top 10
abbrev N_meets_all : List Str := ["numbers", "wanted", "other"]
theorem sc_meets_all : FnScope N_meets_all ["numbers", "wanted"] (defScope s_meets_all) := ⟨rfl, rfl, rfl, by decide +kernel, rfl, by decide +kernel, by decide +kernel⟩
-- least_meeting
abbrev s_least_meeting : Stmt := top 8
abbrev N_least_meeting : List Str := ["lots", "numbers", "wanted", "tried", "places", "lot", "number", "place"]
theorem sc_least_meeting : FnScope N_least_meeting ["lots"] (defScope s_least_meeting) := ⟨rfl, rfl, rfl, by decide +kernel, rfl, by decide +kernel, by decide +kernel⟩
-- _law_set
abbrev s_l_set : Stmt := top 16
abbrev N_l_set : List Str := ["_law_lot_here", "_law_number"]
theorem sc_l_set : FnScope N_l_set ["_law_lot_here"] (defScope s_l_set) := ⟨rfl, rfl, rfl, by decide +kernel, rfl, by decide +kernel, by decide +kernel⟩
-- _law_is_number
abbrev s_l_is_number : Stmt := top 18
abbrev N_l_is_number : List Str := ["_law_thing"]
theorem sc_l_is_number : FnScope N_l_is_number ["_law_thing"] (defScope s_l_is_number) := ⟨rfl, rfl, rfl, by decide +kernel, rfl, by decide +kernel, by decide +kernel⟩
-- _law_meeting
abbrev s_l_meeting : Stmt := top 21
abbrev N_l_meeting : List Str := ["_law_masks", "_law_places_here", "_law_whole", "_law_found", "_law_row", "_law_lot_here", "_law_fewer", "_law_number", "_law_at", "_law_mask", "_law_part"]
theorem sc_l_meeting : FnScope N_l_meeting ["_law_masks", "_law_places_here"] (defScope s_l_meeting) := ⟨rfl, rfl, rfl, by decide +kernel, rfl, by decide +kernel, by decide +kernel⟩
-- _law_lot
abbrev s_l_lot : Stmt := top 15
abbrev N_l_lot : List Str := ["_law_mask", "_law_number"]
theorem sc_l_lot : FnScope N_l_lot ["_law_mask"] (defScope s_l_lot) := ⟨rfl, rfl, rfl, by decide +kernel, rfl, by decide +kernel, by decide +kernel⟩
-- _law_sorted
abbrev s_l_sorted : Stmt := top 17
abbrev N_l_sorted : List Str := ["_law_masks", "_law_pair", "_law_mask"]
theorem sc_l_sorted : FnScope N_l_sorted ["_law_masks"] (defScope s_l_sorted) := ⟨rfl, rfl, rfl, by decide +kernel, rfl, by decide +kernel, by decide +kernel⟩
-- _law_barest
abbrev s_l_barest : Stmt := top 20
abbrev N_l_barest : List Str := ["_law_masks", "_law_found", "_law_mask", "_law_other"]
theorem sc_l_barest : FnScope N_l_barest ["_law_masks"] (defScope s_l_barest) := ⟨rfl, rfl, rfl, by decide +kernel, rfl, by decide +kernel, by decide +kernel⟩
-- _law_many
abbrev s_l_many : Stmt := top 22
abbrev N_l_many : List Str := ["_law_bag_here", "_law_first", "_law_others", "_law_step", "_law_lots", "_law_k", "_law_number"]
theorem sc_l_many : FnScope N_l_many ["_law_bag_here"] (defScope s_l_many) := ⟨rfl, rfl, rfl, by decide +kernel, rfl, by decide +kernel, by decide +kernel⟩
-- law
abbrev s_law : Stmt := top 23
abbrev N_law : List Str := ["_law_script", "_law_bag_here", "_law_great", "_law_places_here", "_law_lots", "_law_k", "_law_part", "_law_lot_here", "_law_handed", "_law_kept", "_law_some", "_law_told", "_law_masks", "_law_number", "_law_at"]
theorem sc_law : FnScope N_law ["_law_script"] (defScope s_law) := ⟨rfl, rfl, rfl, by decide +kernel, rfl, by decide +kernel, by decide +kernel⟩
structure Fa (K : PySem.W.Frag) (mg : Str → Option Value) where
  cls : Nat → Addr
  f_l_bag : Addr
  fd_l_bag : FuncData
  F_l_bag : Fun K "_law_bag" "_law_bag" s_l_bag f_l_bag fd_l_bag
  D_l_bag : Df K mg "_law_bag" ["_law_script", "_law_at"] f_l_bag fd_l_bag
  f_l_take : Addr
  fd_l_take : FuncData
  F_l_take : Fun K "_law_take" "_law_take" s_l_take f_l_take fd_l_take
  D_l_take : Df K mg "_law_take" ["_law_bag_here", "_law_many_here"] f_l_take fd_l_take
  f_l_places : Addr
  fd_l_places : FuncData
  F_l_places : Fun K "_law_places" "_law_places" s_l_places f_l_places fd_l_places
  D_l_places : Df K mg "_law_places" ["_law_bag_here", "_law_many_here"] f_l_places fd_l_places
  f_l_of : Addr
  fd_l_of : FuncData
  F_l_of : Fun K "_law_of" "_law_of" s_l_of f_l_of fd_l_of
  D_l_of : Df K mg "_law_of" ["_law_bag_here", "_law_some"] f_l_of fd_l_of
  f_set_of : Addr
  fd_set_of : FuncData
  F_set_of : Fun K "set_of" "set_of" s_set_of f_set_of fd_set_of
  D_set_of : Df K mg "set_of" ["days"] f_set_of fd_set_of
  f_within : Addr
  fd_within : FuncData
  F_within : Fun K "within" "within" s_within f_within fd_within
  D_within : Df K mg "within" ["one", "other"] f_within fd_within
  f_least_lots : Addr
  fd_least_lots : FuncData
  F_least_lots : Fun K "least_lots" "least_lots" s_least_lots f_least_lots fd_least_lots
  D_least_lots : Df K mg "least_lots" ["lots"] f_least_lots fd_least_lots
  f_least_sets : Addr
  fd_least_sets : FuncData
  F_least_sets : Fun K "least_sets" "least_sets" s_least_sets f_least_sets fd_least_sets
  D_least_sets : Df K mg "least_sets" ["lots"] f_least_sets fd_least_sets
  f_first_behind : Addr
  fd_first_behind : FuncData
  F_first_behind : Fun K "first_behind" "first_behind" s_first_behind f_first_behind fd_first_behind
  D_first_behind : Df K mg "first_behind" ["lot"] f_first_behind fd_first_behind
  f_all_lots : Addr
  fd_all_lots : FuncData
  F_all_lots : Fun K "all_lots" "all_lots" s_all_lots f_all_lots fd_all_lots
  D_all_lots : Df K mg "all_lots" ["many"] f_all_lots fd_all_lots
  f_meets_all : Addr
  fd_meets_all : FuncData
  F_meets_all : Fun K "meets_all" "meets_all" s_meets_all f_meets_all fd_meets_all
  D_meets_all : Df K mg "meets_all" ["numbers", "wanted"] f_meets_all fd_meets_all
  f_least_meeting : Addr
  fd_least_meeting : FuncData
  F_least_meeting : Fun K "least_meeting" "least_meeting" s_least_meeting f_least_meeting fd_least_meeting
  D_least_meeting : Df K mg "least_meeting" ["lots"] f_least_meeting fd_least_meeting
  f_l_set : Addr
  fd_l_set : FuncData
  F_l_set : Fun K "_law_set" "_law_set" s_l_set f_l_set fd_l_set
  D_l_set : Df K mg "_law_set" ["_law_lot_here"] f_l_set fd_l_set
  f_l_is_number : Addr
  fd_l_is_number : FuncData
  F_l_is_number : Fun K "_law_is_number" "_law_is_number" s_l_is_number f_l_is_number fd_l_is_number
  D_l_is_number : Df K mg "_law_is_number" ["_law_thing"] f_l_is_number fd_l_is_number
  f_l_meeting : Addr
  fd_l_meeting : FuncData
  F_l_meeting : Fun K "_law_meeting" "_law_meeting" s_l_meeting f_l_meeting fd_l_meeting
  D_l_meeting : Df K mg "_law_meeting" ["_law_masks", "_law_places_here"] f_l_meeting fd_l_meeting
  f_l_lot : Addr
  fd_l_lot : FuncData
  F_l_lot : Fun K "_law_lot" "_law_lot" s_l_lot f_l_lot fd_l_lot
  D_l_lot : Df K mg "_law_lot" ["_law_mask"] f_l_lot fd_l_lot
  f_l_sorted : Addr
  fd_l_sorted : FuncData
  F_l_sorted : Fun K "_law_sorted" "_law_sorted" s_l_sorted f_l_sorted fd_l_sorted
  D_l_sorted : Df K mg "_law_sorted" ["_law_masks"] f_l_sorted fd_l_sorted
  f_l_barest : Addr
  fd_l_barest : FuncData
  F_l_barest : Fun K "_law_barest" "_law_barest" s_l_barest f_l_barest fd_l_barest
  D_l_barest : Df K mg "_law_barest" ["_law_masks"] f_l_barest fd_l_barest
  f_l_many : Addr
  fd_l_many : FuncData
  F_l_many : Fun K "_law_many" "_law_many" s_l_many f_l_many fd_l_many
  D_l_many : Df K mg "_law_many" ["_law_bag_here"] f_l_many fd_l_many
  f_law : Addr
  fd_law : FuncData
  F_law : Fun K "law" "law" s_law f_law fd_law
  D_law : Df K mg "law" ["_law_script"] f_law fd_law
  z_abs : mg "abs" = none
  z_all : mg "all" = none
  z_any : mg "any" = none
  z_bool : mg "bool" = none
  z_enumerate : mg "enumerate" = none
  z_int : mg "int" = none
  z_isinstance : mg "isinstance" = none
  z_len : mg "len" = none
  z_list : mg "list" = none
  z_range : mg "range" = none
  z_sorted : mg "sorted" = none
  z_sum : mg "sum" = none
  z_tuple : mg "tuple" = none
section
variable {P : Program} {w : World} {K : PySem.W.Frag} {mg : Str → Option Value} {base : Heap}
theorem ok_l_bag (Z : Fa K mg) : FnOk P w K mg base CX0 1 Z.f_l_bag Z.fd_l_bag ["_law_script", "_law_at"] (SpF ⟨K, Z.cls⟩ (fun t : Cn Scr (Cn Int Nl) => w_bag t.a t.r.a)) := by
  refine FnOk.imp (sp := sp_bag0 K) ?_ bag_of
  refine Z.F_l_bag.ok sc_l_bag (fun vs H Q E h => ?_) (fun cdv A outer s H vs Q E hr h => ?_)
  · obtain ⟨a, ns, k, rfl, _⟩ := h
    rfl
  · obtain ⟨a, ns, k, rfl, hS, hl, hk, hk', q⟩ := h
    refine ⟨_, (pss_cons (ps_set (i := 2) sc_l_bag.nd rfl (Or.inl rfl) (pe_ifExp (pt_cmpR op_lt (pv 1) (pe_callB call_len_seq (by rfl) Z.z_len (by decide +kernel) (pa_cons (pv 0) pa_nil)) (nomark _)) (pe_callB call_abs (by rfl) Z.z_abs (by decide +kernel) (pa_cons (pe_ix ix_list (pv 0) (pv 1) (fun _ _ => rfl)) pa_nil)) pe_int))
        (pss_cons (ps_set (i := 3) sc_l_bag.nd rfl (Or.inl rfl) (pe_op op_add pe_int (pe_op op_mul pe_int (pv 1))))
        (pss_cons (ps_for PassesOwn.never rfl (pi_enum (by rfl) Z.z_enumerate (pa_cons (pe_slice sl_list (pv 0) po_none (po_some pe_int)) pa_nil)) (pg_tup rfl (pgs_cons (pg_name (i := 4) sc_l_bag.nd rfl (Or.inl rfl)) (pgs_cons (pg_name (i := 5) sc_l_bag.nd rfl (Or.inl rfl)) pgs_nil))) (pss_one (ps_set (i := 3) sc_l_bag.nd rfl (Or.inl rfl) (pe_op op_mod (pe_callTy call_int1 (by rfl) Z.z_int (by decide +kernel) (pa_cons (pe_op op_add (pe_op op_add (pe_op op_mul (pv 3) pe_int) (pe_op op_mod (pe_callTy call_int1 (by rfl) Z.z_int (by decide +kernel) (pa_cons (pv 5) pa_nil)) pe_int)) (pe_op op_mul pe_int (pv 4))) pa_nil)) pe_int))))
        (pss_one (ps_ret (pe_lst (pa_cons (pe_ifExp (pt_cmpR op_ge (pv 2) (pe_op op_pow pe_int pe_int) (nomark _)) (pv 2) pe_int) (pa_cons (pv 3) (pa_cons pe_int pa_nil))))))))), ?_⟩
    refine bag_asg (R := fun v H' => ∃ c : Int, v = .int c ∧ 0 ≤ c ∧ H' = H) (fun Q' q' => ?_) fun v H' ⟨c, e, hc, eH⟩ => ?_
    · refine ⟨_, rfl, _, rfl, _, _, rfl, .inl hS, _, _, rfl, rfl, _, rfl, ?_⟩
      refine ite2 (fun z => ?_) (fun z => ?_)
      · have z' : k < ((ns.map V.int).length : Int) := of_decide_eq_true z
        obtain ⟨j, rfl⟩ := Int.eq_ofNat_of_zero_le hk
        rw [List.length_map] at z'
        have hj : j < ns.length := by omega
        refine ⟨_, rfl, _, rfl, _, _, _, _, rfl, rfl, hS, atI_nat (by rw [List.getElem?_map, List.getElem?_eq_getElem hj]; rfl), _, rfl, ?_⟩
        refine q' _ _ ⟨_, rfl, ?_, rfl⟩
        split <;> omega
      · exact q' _ _ ⟨0, rfl, Int.le_refl _, rfl⟩
    · subst e eH
      refine ⟨_, rfl, _, _, rfl, rfl, .inl ⟨by decide, by decide⟩, _, _, rfl, rfl, ?_⟩
      refine ⟨_, rfl, _, rfl, _, _, rfl, hS, fun p hp => ?_⟩
      obtain ⟨ms, em, hm⟩ := bag_cut ns (some 63)
      have hp2 : (upd H' p (.lst (cutV (ns.map V.int) none (some 63)))) p = some (.lst (ms.map V.int)) := by rw [upd_same, em]
      have new : ∀ (H : Hp) (p : Addr) (o : HO), H p = none → Same H (upd H p o) := fun H p o n a u e => by rw [upd_ne (ne_of_none e n)]; exact e
      refine ⟨p, _, rfl, SqL.of hp2, for_it (walk_enum (K := K) (a := p) (xs := ms.map V.int)) (fun i σ H2 => ∃ (mix : Int) (u v : Option V), σ = [some (.ref a), some (.int k), some (.int c), some (.int mix), u, v] ∧ 0 ≤ mix ∧ mix < 2 ^ 40 ∧ Same H' H2 ∧ H2 p = some (.lst (ms.map V.int))) ?_ (fun i σ H2 _ ⟨_, _, _, _, _, _, _, h⟩ => SqL.of h) ?_ ?_⟩
      · refine ⟨90001 + 7919 * k, none, none, rfl, by omega, by omega, new _ _ _ hp, hp2⟩
      · rintro i x σ H2 H3 hi ⟨mix, u, v, rfl, h0, h1, s2, h2⟩ ⟨t, x1, x2, rfl, ht, rfl, e1, e2⟩
        cases e1
        obtain ⟨z, rfl, _⟩ := bag_at e2
        have hi' : i < 63 := by rw [List.length_map] at hi; omega
        refine ⟨t, _, rfl, SqT.of upd_same, rfl, _, _, rfl, _, _, rfl, rfl, ?_⟩
        refine ⟨_, rfl, _, _, rfl, rfl, .inr ⟨by decide, by decide⟩, ?_⟩
        refine ⟨_, rfl, .inl ⟨_, rfl, _, _, rfl, rfl, (by show (0 : Int) < 2147483543; decide), ?_⟩⟩
        refine ⟨_, _, rfl, rfl, _, rfl, _, _, rfl, rfl, .inl ⟨by decide, by decide⟩, ?_⟩
        refine ⟨_, _, rfl, rfl, .inl ⟨_, rfl, _, _, rfl, rfl, (by show (0 : Int) < 2147483563; decide), ?_⟩⟩
        refine ⟨_, _, _, rfl, Int.emod_nonneg _ (by decide), Int.lt_trans (Int.emod_lt_of_pos _ (by decide)) (by decide), fun a u e => new _ _ _ ht a u (s2 a u e), ?_⟩
        rw [upd_ne (ne_of_none h2 ht)]
        exact h2
      · rintro σ H2 ⟨mix, u, v, rfl, h0, h1, s2, h2⟩
        dsimp only
        refine bag_ret (R := fun v H' => ∃ c : Int, v = .int c ∧ 0 ≤ c ∧ H' = H2) (fun Q' q' => ?_) fun v H' ⟨c, e, hc, eH⟩ => ?_
        · refine ⟨_, rfl, _, _, rfl, rfl, ⟨by decide, by decide, by decide⟩, _, _, rfl, rfl, _, rfl, ?_⟩
          refine ite2 (fun z => ?_) (fun z => ?_)
          · exact ⟨_, rfl, q' _ _ ⟨_, rfl, hc, rfl⟩⟩
          · exact q' _ _ ⟨0, rfl, Int.le_refl _, rfl⟩
        · subst e eH
          refine ⟨_, rfl, (by show 3 ≤ sizeLine; decide), fun b hb => q b _ _ s2 hb ⟨c, mix, 0, rfl, hc, h0, h1, Int.le_refl _⟩⟩
theorem ok_l_take (Z : Fa K mg) : FnOk P w K mg base CX0 1 Z.f_l_take Z.fd_l_take ["_law_bag_here", "_law_many_here"] (SpF ⟨K, Z.cls⟩ (fun t : Cn Bag (Cn Int Nl) => w_take t.a t.r.a)) := by
  refine FnOk.imp (sp := sp_take0) ?_ take_of
  refine Z.F_l_take.ok sc_l_take (fun vs H Q E h => ?_) (fun cdv A outer s H vs Q E hr h => ?_)
  · obtain ⟨b, k, rfl, _⟩ := h
    rfl
  · obtain ⟨b, k, rfl, ⟨o, hb, c, m, n, eo, hc, hm, hm', hn⟩, hk, hk', q⟩ := h
    subst eo
    have up : ∀ (H : Hp) (o : HO), Keep b H (upd H b o) := fun H o a u n e => by rw [upd_ne n]; exact e
    refine ⟨_, (pss_cons (ps_if (pt_cmpR op_gt (pe_ix ix_list (pv 0) pe_int (fun _ _ => rfl)) pe_int (nomark _)) (pss_cons (ps_set (i := 2) sc_l_take.nd rfl (Or.inl rfl) (pe_op op_mod (pe_callTy call_int1 (by rfl) Z.z_int (by decide +kernel) (pa_cons (pe_ix ix_list (pv 0) pe_int (fun _ _ => rfl)) pa_nil)) (pv 1)))
        (pss_cons (ps_asg (pe_op op_fdivW (pe_ix ix_list (pv 0) pe_int (fun _ _ => rfl)) (pv 1)) (pg_sub (pv 0) pe_int set_list))
        (pss_one (ps_ret (pv 2))))) pss_nil)
        (pss_cons (ps_asg (pe_op op_add (pe_ix ix_list (pv 0) pe_int (fun _ _ => rfl)) pe_int) (pg_sub (pv 0) pe_int set_list))
        (pss_cons (ps_asg (pe_op op_mod (pe_callTy call_int1 (by rfl) Z.z_int (by decide +kernel) (pa_cons (pe_op op_add (pe_op op_add (pe_op op_mul (pe_ix ix_list (pv 0) pe_int (fun _ _ => rfl)) pe_int) (pe_op op_mul pe_int (pe_ix ix_list (pv 0) pe_int (fun _ _ => rfl)))) pe_int) pa_nil)) pe_int) (pg_sub (pv 0) pe_int set_list))
        (pss_one (ps_ret (pe_op op_mod (pe_op op_fdivW (pe_op op_mod (pe_callTy call_int1 (by rfl) Z.z_int (by decide +kernel) (pa_cons (pe_op op_mul (pe_ix ix_list (pv 0) pe_int (fun _ _ => rfl)) pe_int) pa_nil)) pe_int) pe_int) (pv 1))))))), ?_⟩
    refine ⟨_, rfl, _, _, _, _, rfl, rfl, SqL.of hb, rfl, _, _, rfl, rfl, _, rfl, ?_⟩
    refine ite2 (fun z => ?_) (fun z => ?_)
    · have z' : 0 < c := of_decide_eq_true z
      refine ⟨_, rfl, _, _, _, _, rfl, rfl, SqL.of hb, rfl, .inl ⟨_, rfl, _, rfl, _, _, rfl, rfl, hk, ?_⟩⟩
      refine ⟨_, rfl, _, _, _, _, rfl, rfl, SqL.of hb, rfl, _, rfl, _, _, rfl, rfl, wide_div hk (b := 8000) (by omega) (by decide) (by decide), ?_⟩
      refine ⟨_, rfl, _, _, _, _, rfl, rfl, hb, rfl, ?_⟩
      refine ⟨_, rfl, ?_⟩
      refine q _ _ (Int.emod_nonneg _ (by omega)) (Int.emod_lt_of_pos _ hk) ⟨_, upd_same, c / k, m, n, rfl, Int.ediv_nonneg hc (by omega), hm, hm', hn⟩ (up _ _)
    · refine ⟨_, rfl, _, _, _, _, rfl, rfl, SqL.of hb, rfl, _, _, rfl, rfl, ?_⟩
      refine ⟨_, rfl, _, _, _, _, rfl, rfl, hb, rfl, ?_⟩
      have hb2 : (upd H b (.lst ([V.int c, V.int m, V.int n].set 2 (V.int (n + 1))))) b = some (.lst [V.int c, V.int m, V.int (n + 1)]) := upd_same
      refine ⟨_, rfl, _, _, _, _, rfl, rfl, SqL.of hb2, rfl, _, _, rfl, rfl, .inr ⟨by decide, by decide⟩, ?_⟩
      refine ⟨_, rfl, _, _, _, _, rfl, rfl, SqL.of hb2, rfl, _, _, rfl, rfl, .inl ⟨by decide, by decide⟩, ?_⟩
      refine ⟨_, _, rfl, rfl, _, _, rfl, rfl, .inl ⟨_, rfl, _, _, rfl, rfl, (by show (0 : Int) < 2147483647; decide), ?_⟩⟩
      refine ⟨_, rfl, _, _, _, _, rfl, rfl, hb2, rfl, ?_⟩
      have h0 : 0 ≤ (m * 48271 + 11 * (n + 1) + 7) % 2147483647 := Int.emod_nonneg _ (by decide)
      have h1 : (m * 48271 + 11 * (n + 1) + 7) % 2147483647 < 2147483647 := Int.emod_lt_of_pos _ (by decide)
      have hb3 : (upd (upd H b (.lst ([V.int c, V.int m, V.int n].set 2 (V.int (n + 1))))) b (.lst ([V.int c, V.int m, V.int (n + 1)].set 1 (V.int ((m * 48271 + 11 * (n + 1) + 7) % 2147483647))))) b = some (.lst [V.int c, V.int ((m * 48271 + 11 * (n + 1) + 7) % 2147483647), V.int (n + 1)]) := upd_same
      refine ⟨_, rfl, _, _, _, _, rfl, rfl, SqL.of hb3, rfl, _, _, rfl, rfl, .inr ⟨by decide, by decide⟩, .inl ⟨_, rfl, ?_⟩⟩
      refine ⟨_, _, rfl, rfl, (by show (0 : Int) < 2147483629; decide), _, _, rfl, rfl, wide_div (by decide) (b := 8) (by decide) (by decide) (by decide), ?_⟩
      refine ⟨_, rfl, _, _, rfl, rfl, hk, ?_⟩
      exact q _ _ (Int.emod_nonneg _ (by omega)) (Int.emod_lt_of_pos _ hk) ⟨_, hb3, c, _, n + 1, rfl, hc, h0, by omega, by omega⟩ (fun a u ne e => up _ _ a u ne (up _ _ a u ne e))
theorem ok_l_places_Bagi (Z : Fa K mg) : FnOk P w K mg base (L2.CX P w) 3 Z.f_l_places Z.fd_l_places ["_law_bag_here", "_law_many_here"] (SpF ⟨K, Z.cls⟩ (fun t : (Cn Bag (Cn Int Nl)) => w_l_places_Bagi t.a t.r.a)) := by
  refine def_ok _ Z.F_l_places sc_l_places rfl (by decide) fun cdv A outer s H E A0 Er t hr => ?_
  obtain ⟨a_bag_here, a_many_here, ⟨⟩⟩ := t
  refine ⟨_, (pss_cons (ps_par (i := 2) (j := 3) (by rfl) sc_l_places.nd rfl rfl (by decide) rfl rfl (pa_cons (pe_lc (own := [("_law_number", 5)]) (g := gName 5) (tt := tYes) rfl sc_l_places.nd (pi_range1 (by rfl) Z.z_range (pa_cons pe_int pa_nil)) (blkOk_by (N := N_l_places) (sc := defScope s_l_places) (by decide +kernel)) (fun _ _ _ _ _ => (pg_name (i := 5) sc_l_places.nd rfl (Or.inl rfl))) (fun _ _ _ _ _ => pts_nil) (fun _ _ _ _ _ => (pv 5))) (pa_cons (pe_lst pa_nil) pa_nil)) (by rfl))
        (pss_cons (ps_for (passes_of rfl) rfl (pi_range1 (by rfl) Z.z_range (pa_cons (pv 1) pa_nil)) (pg_name (i := 4) sc_l_places.nd rfl (Or.inl rfl)) (pss_cons (ps_expr (pe_bm PySem.F.plainAttrs_list PySem.F.slot_list_append PySem.F.type_list_append mt_append (pv 3) (pa_cons (pe_bm PySem.F.plainAttrs_list PySem.F.slot_list_pop PySem.F.type_list_pop mt_popAt (pv 2) (pa_cons (pe_call (ok_l_take Z) (hr.mono (by decide)) (by rfl) Z.D_l_take.g Z.D_l_take.kp Z.D_l_take.b .nil pass0 (pa_cons (pv 0) (pa_cons (pe_callB call_len_seq (by rfl) Z.z_len (by decide +kernel) (pa_cons (pv 2) pa_nil)) pa_nil))) pa_nil)) pa_nil)))
        pss_nil))
        (pss_one (ps_ret (pe_callB (cr_srtDK (K := K) rfl hr.units) (by rfl) Z.z_sorted (by decide +kernel) (pa_cons (pv 3) pa_nil)))))), ?_⟩
  show BodyOk _ _ [.fx Bag a_bag_here, .fx Int a_many_here, .un, .un, .un, .un] (w_l_places_Bagi a_bag_here a_many_here)
  exact bo_ret (Δ := fun _ : Unit => [.un, .un, .un, .un, .un, .un]) (ΔL := fun e : Empty => e.elim) (st_seq (Δ1 := fun v2_s : (T2 (List Int) (List Int)) => [.fx Bag a_bag_here, .fx Int a_many_here, .mu Int v2_s.a, .mu Int v2_s.b, .un, .un]) (st_parMM (ef_comp (ei_range1 ev_int eg_name) (fun _ => eb_yes) (fun v1_x => ev_var)) (ef_lst es_nil))
        fun v2_s => (st_seq (Δ1 := fun v6_s : (List Int) × (List Int) => [.fx Bag a_bag_here, .fx Int a_many_here, .mu Int v6_s.1, .mu Int v6_s.2, .un, .un]) (st_for (Δ := fun v4_s : (List Int) × (List Int) => [.fx Bag a_bag_here, .fx Int a_many_here, .mu Int v4_s.1, .mu Int v4_s.2, .un, .un]) (v2_s.a, v2_s.b) (ei_range1 ev_var eg_name) (Le.eq (Le.eq (Le.eq (Le.eq (Le.eq (Le.eq Le.nil)))))) (fun _ => rfl) fun v3_x v4_s => (st_seq (Δ1 := fun v5_s : (T2 (List Int) (List Int)) => [.fx Bag a_bag_here, .fx Int a_many_here, .mu Int v5_s.b, .mu Int v5_s.a, .fx Int v3_x, .un]) (st_appPop (i := 3) (j := 2) (mi := (((pure a_bag_here : W Bag) >>= fun a => (((pure (Bor.mk v4_s.1) : W (Bor Int)) >>= fun a => (pure (a.l.length : Int) : W Int)) >>= fun a => (pure Nl.mk : W Nl) >>= fun r => (pure (Cn.mk a r) : W (Cn Int Nl))) >>= fun r => (pure (Cn.mk a r) : W (Cn Bag (Cn Int Nl)))) >>= fun t : (Cn Bag (Cn Int Nl)) => w_take t.a t.r.a)) (ev_call (ea_cons ev_var (ea_cons (ev_ca1 cv_lenL ev_mu) ea_nil))))
        fun v5_s => (st_nil (v5_s.b, v5_s.a) (Le.eq (Le.eq (Le.eq (Le.eq (Le.un (Le.eq Le.nil)))))))))
        fun v6_s => (st_keep 3 (δ := [.fx Bag a_bag_here, .fx Int a_many_here, .mu Int v6_s.1, .mu Int v6_s.2, .un, .un]) (st_ret (ev_fr (ef_srtD (ev_bor ev_var)))))))
theorem ok_l_of (Z : Fa K mg) : FnOk P w K mg base (L2.CX P w) 3 Z.f_l_of Z.fd_l_of ["_law_bag_here", "_law_some"] (SpF ⟨K, Z.cls⟩ (fun t : (Cn Bag (Cn (Bor Int) Nl)) => w_l_of t.a t.r.a)) := by
  refine def_ok _ Z.F_l_of sc_l_of rfl (by decide) fun cdv A outer s H E A0 Er t hr => ?_
  obtain ⟨a_bag_here, a_some, ⟨⟩⟩ := t
  refine ⟨_, (pss_one (ps_ret (pe_ix ix_list (pv 1) (pe_call (ok_l_take Z) (hr.mono (by decide)) (by rfl) Z.D_l_take.g Z.D_l_take.kp Z.D_l_take.b .nil pass0 (pa_cons (pv 0) (pa_cons (pe_callB call_len_seq (by rfl) Z.z_len (by decide +kernel) (pa_cons (pv 1) pa_nil)) pa_nil))) (fun _ _ => rfl)))), ?_⟩
  show BodyOk _ _ [.fx Bag a_bag_here, .bo Int a_some.l] (w_l_of a_bag_here a_some)
  exact bo_ret (Δ := fun _ : Unit => [.un, .un]) (ΔL := fun e : Empty => e.elim) (st_ret (ev_op ov_ixL ev_bo (ev_call (ea_cons ev_var (ea_cons (ev_ca1 cv_lenL ev_bo) ea_nil)))))
theorem ok_l_of_BagRTi (Z : Fa K mg) : FnOk P w K mg base (L2.CX P w) 3 Z.f_l_of Z.fd_l_of ["_law_bag_here", "_law_some"] (SpF ⟨K, Z.cls⟩ (fun t : (Cn Bag (Cn (Bor (Tup Int)) Nl)) => w_l_of_BagRTi t.a t.r.a)) := by
  refine def_ok _ Z.F_l_of sc_l_of rfl (by decide) fun cdv A outer s H E A0 Er t hr => ?_
  obtain ⟨a_bag_here, a_some, ⟨⟩⟩ := t
  refine ⟨_, (pss_one (ps_ret (pe_ix ix_list (pv 1) (pe_call (ok_l_take Z) (hr.mono (by decide)) (by rfl) Z.D_l_take.g Z.D_l_take.kp Z.D_l_take.b .nil pass0 (pa_cons (pv 0) (pa_cons (pe_callB call_len_seq (by rfl) Z.z_len (by decide +kernel) (pa_cons (pv 1) pa_nil)) pa_nil))) (fun _ _ => rfl)))), ?_⟩
  show BodyOk _ _ [.fx Bag a_bag_here, .bo (Tup Int) a_some.l] (w_l_of_BagRTi a_bag_here a_some)
  exact bo_ret (Δ := fun _ : Unit => [.un, .un]) (ΔL := fun e : Empty => e.elim) (st_ret (ev_op ov_ixL ev_bo (ev_call (ea_cons ev_var (ea_cons (ev_ca1 cv_lenL ev_bo) ea_nil)))))
theorem ok_set_of_Ti (Z : Fa K mg) : FnOk P w K mg base (L2.CX P w) 1 Z.f_set_of Z.fd_set_of ["days"] (SpF ⟨K, Z.cls⟩ (fun t : (Cn (Tup Int) Nl) => w_set_of_Ti t.a)) := by
  refine def_ok _ Z.F_set_of sc_set_of rfl (by decide) fun cdv A outer s H E A0 Er t hr => ?_
  obtain ⟨a_days, ⟨⟩⟩ := t
  refine ⟨_, (pss_cons (ps_set (i := 1) sc_set_of.nd rfl (Or.inl rfl) pe_int)
        (pss_cons (ps_for (passes_of rfl) rfl (pi_tup (pv 0)) (pg_name (i := 2) sc_set_of.nd rfl (Or.inl rfl)) (pss_cons (ps_set (i := 1) sc_set_of.nd rfl (Or.inl rfl) (pe_op op_or (pv 1) (pe_op op_shl pe_int (pv 2))))
        pss_nil))
        (pss_one (ps_ret (pv 1))))), ?_⟩
  show BodyOk _ _ [.fx (Tup Int) a_days, .un, .un] (w_set_of_Ti a_days)
  exact bo_ret (Δ := fun _ : Unit => [.un, .un, .un]) (ΔL := fun e : Empty => e.elim) (st_seq (Δ1 := fun v1_s : Int => [.fx (Tup Int) a_days, .fx Int v1_s, .un]) (st_set (i := 1) ev_int)
        fun v1_s => (st_seq (Δ1 := fun v5_s : Int => [.fx (Tup Int) a_days, .fx Int v5_s, .un]) (st_for (Δ := fun v3_s : Int => [.fx (Tup Int) a_days, .fx Int v3_s, .un]) (v1_s) (ei_tup (es_tup ev_var) eg_name) (Le.eq (Le.eq (Le.eq Le.nil))) (fun _ => rfl) fun v2_x v3_s => (st_seq (Δ1 := fun v4_s : Int => [.fx (Tup Int) a_days, .fx Int v4_s, .fx Int v2_x]) (st_set (i := 1) (ev_op ov_or ev_var (ev_op ov_shl ev_int ev_var)))
        fun v4_s => (st_nil (v4_s) (Le.eq (Le.eq (Le.un Le.nil))))))
        fun v5_s => (st_ret ev_var)))
theorem ok_within (Z : Fa K mg) : FnOk P w K mg base (L2.CX P w) 1 Z.f_within Z.fd_within ["one", "other"] (SpF ⟨K, Z.cls⟩ (fun t : (Cn Int (Cn Int Nl)) => w_within t.a t.r.a)) := by
  refine def_ok _ Z.F_within sc_within rfl (by decide) fun cdv A outer s H E A0 Er t hr => ?_
  obtain ⟨a_one, a_other, ⟨⟩⟩ := t
  refine ⟨_, (pss_one (ps_ret (pe_cmpR op_eq (pe_op op_and (pv 0) (pe_un un_inv (pv 1))) pe_int (nomark _)))), ?_⟩
  show BodyOk _ _ [.fx Int a_one, .fx Int a_other] (w_within a_one a_other)
  exact bo_ret (Δ := fun _ : Unit => [.un, .un]) (ΔL := fun e : Empty => e.elim) (st_ret (ev_op (ov_eq sc_ii) (ev_op ov_and ev_var (ev_un uv_inv ev_var)) ev_int))
theorem ok_least_lots (Z : Fa K mg) : FnOk P w K mg base (L2.CX P w) 3 Z.f_least_lots Z.fd_least_lots ["lots"] (SpF ⟨K, Z.cls⟩ (fun t : (Cn (Bor (Tup Int)) Nl) => w_least_lots t.a)) := by
  refine def_ok _ Z.F_least_lots sc_least_lots rfl (by decide) fun cdv A outer s H E A0 Er t hr => ?_
  obtain ⟨a_lots, ⟨⟩⟩ := t
  refine ⟨_, (pss_cons (ps_set (i := 1) sc_least_lots.nd rfl (Or.inl rfl) (pe_lst pa_nil))
        (pss_cons (ps_set (i := 2) sc_least_lots.nd rfl (Or.inl rfl) (pe_lst pa_nil))
        (pss_cons (ps_for (passes_of rfl) rfl (pi_list (pv 0)) (pg_name (i := 3) sc_least_lots.nd rfl (Or.inl rfl)) (pss_cons (ps_set (i := 4) sc_least_lots.nd rfl (Or.inr rfl) (pe_call (ok_set_of_Ti Z) (hr.mono (by decide)) (by rfl) Z.D_set_of.g Z.D_set_of.kp Z.D_set_of.b .nil (pass_of (E := E) (takes_of rfl rfl rfl rfl)) (pa_cons (pv 3) pa_nil)))
        (pss_cons (ps_if (pt_not (pt_val (pe_callB (cr_any rfl) (by rfl) Z.z_any (by decide +kernel) (pa_cons (pe_lc (own := [("smaller", 5)]) (g := gName 5) (tt := tYes) rfl sc_least_lots.nd (pi_list (pv 2)) (blkOk_by (N := N_least_lots) (sc := defScope s_least_lots) (by decide +kernel)) (fun _ _ _ _ _ => (pg_name (i := 5) sc_least_lots.nd rfl (Or.inl rfl))) (fun _ _ _ _ _ => pts_nil) (fun _ _ _ _ _ => (pe_call (ok_within Z) (hr.mono (by decide)) (by rfl) Z.D_within.g Z.D_within.kp Z.D_within.b .nil passL (pa_cons (pv 5) (pa_cons (pv 4) pa_nil))))) pa_nil)))) (pss_cons (ps_expr (pe_bm PySem.F.plainAttrs_list PySem.F.slot_list_append PySem.F.type_list_append mt_append (pv 1) (pa_cons (pv 3) pa_nil)))
        (pss_cons (ps_expr (pe_bm PySem.F.plainAttrs_list PySem.F.slot_list_append PySem.F.type_list_append mt_append (pv 2) (pa_cons (pv 4) pa_nil)))
        pss_nil)) pss_nil)
        pss_nil)))
        (pss_one (ps_ret (pe_callTy call_tuple_of (by rfl) Z.z_tuple (by decide +kernel) (pa_cons (pv 1) pa_nil))))))), ?_⟩
  show BodyOk _ _ [.bo (Tup Int) a_lots.l, .un, .un, .un, .un, .un] (w_least_lots a_lots)
  exact bo_ret (Δ := fun _ : Unit => [.un, .un, .un, .un, .un, .un]) (ΔL := fun e : Empty => e.elim) (st_seq (Δ1 := fun v1_s : (List (Tup Int)) => [.bo (Tup Int) a_lots.l, .mu (Tup Int) v1_s, .un, .un, .un, .un]) (st_setM (i := 1) (ef_lst es_nil))
        fun v1_s => (st_seq (Δ1 := fun v2_s : (List Int) => [.bo (Tup Int) a_lots.l, .mu (Tup Int) v1_s, .mu Int v2_s, .un, .un, .un]) (st_setM (i := 2) (ef_lst es_nil))
        fun v2_s => (st_seq (Δ1 := fun v10_s : (List (Tup Int)) × (List Int) => [.bo (Tup Int) a_lots.l, .mu (Tup Int) v10_s.1, .mu Int v10_s.2, .un, .un, .un]) (st_for (Δ := fun v4_s : (List (Tup Int)) × (List Int) => [.bo (Tup Int) a_lots.l, .mu (Tup Int) v4_s.1, .mu Int v4_s.2, .un, .un, .un]) (v1_s, v2_s) (ei_list es_bo eg_name) (Le.eq (Le.eq (Le.eq (Le.eq (Le.eq (Le.eq Le.nil)))))) (fun _ => rfl) fun v3_x v4_s => (st_seq (Δ1 := fun v5_s : Int => [.bo (Tup Int) a_lots.l, .mu (Tup Int) v4_s.1, .mu Int v4_s.2, .fx (Tup Int) v3_x, .fx Int v5_s, .un]) (st_set (i := 4) (ev_call (ea_cons ev_var ea_nil)))
        fun v5_s => (st_seq (Δ1 := fun v9_s : (List (Tup Int)) × (List Int) => [.bo (Tup Int) a_lots.l, .mu (Tup Int) v9_s.1, .mu Int v9_s.2, .fx (Tup Int) v3_x, .fx Int v5_s, .un]) (st_if (eb_not (eb_val (by exact (ev_ca1 cv_any (ev_bor (ev_fr (ef_compS (ei_listS ess_mu eg_name) (fun _ => eb_yes) (fun v6_x => (ev_call (ea_cons ev_var (ea_cons ev_var ea_nil))))))))))) (st_seq (Δ1 := fun v7_s : (List (Tup Int)) => [.bo (Tup Int) a_lots.l, .mu (Tup Int) v7_s, .mu Int v4_s.2, .fx (Tup Int) v3_x, .fx Int v5_s, .un]) (st_map (fun a => v4_s.1 ++ [a]) (st_app (i := 1) ev_var) fun _ => (Le.eq (Le.eq (Le.eq (Le.eq (Le.eq (Le.eq Le.nil)))))))
        fun v7_s => (st_seq (Δ1 := fun v8_s : (List Int) => [.bo (Tup Int) a_lots.l, .mu (Tup Int) v7_s, .mu Int v8_s, .fx (Tup Int) v3_x, .fx Int v5_s, .un]) (st_map (fun a => v4_s.2 ++ [a]) (st_app (i := 2) ev_var) fun _ => (Le.eq (Le.eq (Le.eq (Le.eq (Le.eq (Le.eq Le.nil)))))))
        fun v8_s => (st_nil (v7_s, v8_s) (Le.eq (Le.eq (Le.eq (Le.eq (Le.eq (Le.eq Le.nil))))))))) (st_nil (v4_s.1, v4_s.2) (Le.eq (Le.eq (Le.eq (Le.eq (Le.eq (Le.eq Le.nil))))))))
        fun v9_s => (st_nil (v9_s.1, v9_s.2) (Le.eq (Le.eq (Le.eq (Le.un (Le.un (Le.eq Le.nil))))))))))
        fun v10_s => (st_keep 1 (δ := [.bo (Tup Int) a_lots.l, .mu (Tup Int) v10_s.1, .mu Int v10_s.2, .un, .un, .un]) (st_ret (ev_ca1 cv_tupL (ev_bor ev_var)))))))
theorem ok_least_sets (Z : Fa K mg) : FnOk P w K mg base (L2.CX P w) 5 Z.f_least_sets Z.fd_least_sets ["lots"] (SpF ⟨K, Z.cls⟩ (fun t : (Cn (Sm2 (List (Sm2 (List Int) (Tup Int))) (Tup (Sm2 (List Int) (Tup Int)))) Nl) => w_least_sets t.a)) := by
  refine def_ok _ Z.F_least_sets sc_least_sets rfl (by decide) fun cdv A outer s H E A0 Er t hr => ?_
  obtain ⟨a_lots, ⟨⟩⟩ := t
  refine ⟨_, (pss_cons (ps_set (i := 1) sc_least_sets.nd rfl (Or.inl rfl) (pe_callB (cr_srtDK (K := K) rfl hr.units) (by rfl) Z.z_sorted (by decide +kernel) (pa_cons (pe_lc (own := [("lot", 2)]) (g := gName 2) (tt := tYes) rfl sc_least_sets.nd (pi_eit (pv 0)) (blkOk_by (N := N_least_sets) (sc := defScope s_least_sets) (by decide +kernel)) (fun _ _ _ _ _ => (pg_name (i := 2) sc_least_sets.nd rfl (Or.inl rfl))) (fun _ _ _ _ _ => pts_nil) (fun _ _ _ _ _ => (pe_tup (pa_cons (pe_callB (call_lenK (K := K) rfl) (by rfl) Z.z_len (by decide +kernel) (pa_cons (pv 2) pa_nil)) (pa_cons (pe_callTy (call_tuple_ofK (K := K) rfl) (by rfl) Z.z_tuple (by decide +kernel) (pa_cons (pv 2) pa_nil)) pa_nil))))) pa_nil)))
        (pss_one (ps_ret (pe_lc (own := [("lot", 2)]) (g := gName 2) (tt := tYes) rfl sc_least_sets.nd (pi_tup (pe_call (ok_least_lots Z) (hr.mono (by decide)) (by rfl) Z.D_least_lots.g Z.D_least_lots.kp Z.D_least_lots.b .nil (pass_of (E := E) (takes_of rfl rfl rfl rfl)) (pa_cons (pe_lc (own := [("_", 3), ("lot", 2)]) (g := gTup K 2 (gCons (gName 3) (gCons (gName 2) gNil))) (tt := tYes) rfl sc_least_sets.nd (pi_list (pv 1)) (blkOk_by (N := N_least_sets) (sc := defScope s_least_sets) (by decide +kernel)) (fun _ _ _ _ _ => (pg_tup rfl (pgs_cons (pg_name (i := 3) sc_least_sets.nd rfl (Or.inl rfl)) (pgs_cons (pg_name (i := 2) sc_least_sets.nd rfl (Or.inl rfl)) pgs_nil)))) (fun _ _ _ _ _ => pts_nil) (fun _ _ _ _ _ => (pv 2))) pa_nil))) (blkOk_by (N := N_least_sets) (sc := defScope s_least_sets) (by decide +kernel)) (fun _ _ _ _ _ => (pg_name (i := 2) sc_least_sets.nd rfl (Or.inl rfl))) (fun _ _ _ _ _ => pts_nil) (fun _ _ _ _ _ => (pe_call (ok_set_of_Ti Z) (hr.mono (by decide)) (by rfl) Z.D_set_of.g Z.D_set_of.kp Z.D_set_of.b .nil passL (pa_cons (pv 2) pa_nil))))))), ?_⟩
  show BodyOk _ _ [.fx (Sm2 (List (Sm2 (List Int) (Tup Int))) (Tup (Sm2 (List Int) (Tup Int)))) a_lots, .un, .un, .un] (w_least_sets a_lots)
  exact bo_ret (Δ := fun _ : Unit => [.un, .un, .un, .un]) (ΔL := fun e : Empty => e.elim) (st_seq (Δ1 := fun v2_s : (List (T2 Int (Tup Int))) => [.fx (Sm2 (List (Sm2 (List Int) (Tup Int))) (Tup (Sm2 (List Int) (Tup Int)))) a_lots, .fx (List (T2 Int (Tup Int))) v2_s, .un, .un]) (st_set (i := 1) (ev_fr (ef_srtD (ev_bor (ev_fr (ef_comp (ei_eit ev_var eg_name) (fun _ => eb_yes) (fun v1_x => (ev_t2 (ev_ca1 cv_lenE ev_var) (ev_ca1 cv_tupE ev_var)))))))))
        fun v2_s => (st_ret (ev_fr (ef_comp (ei_tup (es_tup (ev_call (ea_cons (ev_bor (ev_fr (ef_comp (ei_list (es_list ev_var) (eg_2 eg_name eg_name)) (fun _ => eb_yes) (fun v10_x => ev_var)))) ea_nil))) eg_name) (fun _ => eb_yes) (fun v11_x => (ev_call (ea_cons ev_var ea_nil)))))))
theorem ok_first_behind (Z : Fa K mg) : FnOk P w K mg base (L2.CX P w) 1 Z.f_first_behind Z.fd_first_behind ["lot"] (SpF ⟨K, Z.cls⟩ (fun t : (Cn (Tup Int) Nl) => w_first_behind t.a)) := by
  refine def_ok _ Z.F_first_behind sc_first_behind rfl (by decide) fun cdv A outer s H E A0 Er t hr => ?_
  obtain ⟨a_lot, ⟨⟩⟩ := t
  refine ⟨_, (pss_one (ps_ret (pe_ifExp (pt_truth (pv 0) (by intro _; rfl)) (pe_op op_add (pe_ix ix_tup (pv 0) (pe_un un_neg pe_int) (fun _ _ => rfl)) pe_int) pe_int))), ?_⟩
  show BodyOk _ _ [.fx (Tup Int) a_lot] (w_first_behind a_lot)
  exact bo_ret (Δ := fun _ : Unit => [.un]) (ΔL := fun e : Empty => e.elim) (st_ret (ev_if (eb_truth ev_var) (ev_op ov_add (ev_op ov_ixT ev_var (ev_un uv_neg ev_int)) ev_int) ev_int))
theorem ok_all_lots (Z : Fa K mg) : FnOk P w K mg base (L2.CX P w) 3 Z.f_all_lots Z.fd_all_lots ["many"] (SpF ⟨K, Z.cls⟩ (fun t : (Cn Int Nl) => w_all_lots t.a)) := by
  refine def_ok _ Z.F_all_lots sc_all_lots rfl (by decide) fun cdv A outer s H E A0 Er t hr => ?_
  obtain ⟨a_many, ⟨⟩⟩ := t
  refine ⟨_, (pss_cons (ps_set (i := 1) sc_all_lots.nd rfl (Or.inl rfl) (pe_lst (pa_cons (pe_tup pa_nil) pa_nil)))
        (pss_cons (ps_set (i := 2) sc_all_lots.nd rfl (Or.inl rfl) (pe_lst (pa_cons (pe_tup pa_nil) pa_nil)))
        (pss_cons (ps_for (passes_of rfl) rfl (pi_range1 (by rfl) Z.z_range (pa_cons (pv 0) pa_nil)) (pg_name (i := 3) sc_all_lots.nd rfl (Or.inl rfl)) (pss_cons (ps_setLc2 (i := 2) (own := [("lot", 4), ("number", 5)]) (g := gName 4) (g1 := gName 5) (vs1 := [5]) (tt := tYes) (tt1 := tYes) rfl sc_all_lots.nd rfl rfl (sw_true rfl rfl rfl (by decide +kernel)) (pi_list (pv 2)) (blkOk_by (N := N_all_lots) (sc := defScope s_all_lots) (by decide +kernel)) (by decide) (fun _ _ _ _ _ => (pg_name (i := 4) sc_all_lots.nd rfl (Or.inl rfl))) (fun _ _ _ _ _ => pts_nil) (fun _ _ _ _ _ => (pi_range2 (by rfl) Z.z_range (pa_cons (pe_call (ok_first_behind Z) (hr.mono (by decide)) (by rfl) Z.D_first_behind.g Z.D_first_behind.kp Z.D_first_behind.b .nil passL (pa_cons (pv 4) pa_nil)) (pa_cons (pv 0) pa_nil)))) (fun _ _ _ _ _ => (pg_name (i := 5) sc_all_lots.nd rfl (Or.inl rfl))) (fun _ _ _ _ _ => pts_nil) (fun _ _ _ _ _ => (pe_op (op_catAK (K := K) rfl) (pv 4) (pe_tup (pa_cons (pv 5) pa_nil)))))
        (pss_cons (ps_expr (pe_bm PySem.F.plainAttrs_list PySem.F.slot_list_extend PySem.F.type_list_extend mt_extend (pv 1) (pa_cons (pv 2) pa_nil)))
        pss_nil)))
        (pss_one (ps_ret (pv 1)))))), ?_⟩
  show BodyOk _ _ [.fx Int a_many, .un, .un, .un, .un, .un] (w_all_lots a_many)
  exact bo_ret (Δ := fun _ : Unit => [.un, .un, .un, .un, .un, .un]) (ΔL := fun e : Empty => e.elim) (st_seq (Δ1 := fun v1_s : (List (Tup Int)) => [.fx Int a_many, .mu (Tup Int) v1_s, .un, .un, .un, .un]) (st_setM (i := 1) (ef_lst (es_cons (ev_tupN es_nil) es_nil)))
        fun v1_s => (st_seq (Δ1 := fun v2_s : (List (Tup Int)) => [.fx Int a_many, .mu (Tup Int) v1_s, .fx (List (Tup Int)) v2_s, .un, .un, .un]) (st_set (i := 2) (ev_fr (ef_lst (es_cons (ev_tupN es_nil) es_nil))))
        fun v2_s => (st_seq (Δ1 := fun v9_s : (List (Tup Int)) × (List (Tup Int)) => [.fx Int a_many, .mu (Tup Int) v9_s.1, .fx (List (Tup Int)) v9_s.2, .un, .un, .un]) (st_for (Δ := fun v4_s : (List (Tup Int)) × (List (Tup Int)) => [.fx Int a_many, .mu (Tup Int) v4_s.1, .fx (List (Tup Int)) v4_s.2, .un, .un, .un]) (v1_s, v2_s) (ei_range1 ev_var eg_name) (Le.eq (Le.eq (Le.eq (Le.eq (Le.eq (Le.eq Le.nil)))))) (fun _ => rfl) fun v3_x v4_s => (st_seq (Δ1 := fun v7_s : (List (Tup Int)) => [.fx Int a_many, .mu (Tup Int) v4_s.1, .fx (List (Tup Int)) v7_s, .fx Int v3_x, .un, .un]) (st_set (i := 2) (ev_fr (ef_comp2 (ei_list (es_list ev_var) eg_name) (by decide) (fun _ => rfl) (fun _ => eb_yes) (fun v5_x => (ei_range2 (ev_call (ea_cons ev_var ea_nil)) ev_var eg_name)) (fun _ _ => eb_yes) (fun v5_x v6_y => (ev_op ov_catT ev_var (ev_tupN (es_cons ev_var es_nil)))))))
        fun v7_s => (st_seq (Δ1 := fun v8_s : (List (Tup Int)) => [.fx Int a_many, .mu (Tup Int) v8_s, .fx (List (Tup Int)) v7_s, .fx Int v3_x, .un, .un]) (st_extB (i := 1) (m := ((pure v7_s : W (List (Tup Int))) >>= fun xs => (pure (Bor.mk xs) : W (Bor (Tup Int))))) (ev_bor ev_var))
        fun v8_s => (st_nil (v8_s, v7_s) (Le.eq (Le.eq (Le.eq (Le.un (Le.eq (Le.eq Le.nil))))))))))
        fun v9_s => st_retM)))
theorem ok_meets_all (Z : Fa K mg) : FnOk P w K mg base (L2.CX P w) 1 Z.f_meets_all Z.fd_meets_all ["numbers", "wanted"] (SpF ⟨K, Z.cls⟩ (fun t : (Cn Int (Cn (Bor Int) Nl)) => w_meets_all t.a t.r.a)) := by
  refine def_ok _ Z.F_meets_all sc_meets_all rfl (by decide) fun cdv A outer s H E A0 Er t hr => ?_
  obtain ⟨a_numbers, a_wanted, ⟨⟩⟩ := t
  refine ⟨_, (pss_cons (ps_for (passes_of rfl) rfl (pi_list (pv 1)) (pg_name (i := 2) sc_meets_all.nd rfl (Or.inl rfl)) (pss_cons (ps_if (pt_cmpR op_eq (pe_op op_and (pv 0) (pv 2)) pe_int (nomark _)) (pss_one (ps_ret pe_bl)) pss_nil)
        pss_nil))
        (pss_one (ps_ret pe_bl))), ?_⟩
  show BodyOk _ _ [.fx Int a_numbers, .bo Int a_wanted.l, .un] (w_meets_all a_numbers a_wanted)
  exact bo_ret (Δ := fun _ : Unit => [.un, .un, .un]) (ΔL := fun e : Empty => e.elim) (st_seq (Δ1 := fun v4_s : Unit => [.fx Int a_numbers, .bo Int a_wanted.l, .un]) (st_for (Δ := fun v2_s : Unit => [.fx Int a_numbers, .bo Int a_wanted.l, .un]) () (ei_list es_bo eg_name) (Le.eq (Le.eq (Le.eq Le.nil))) (fun _ => rfl) fun v1_x v2_s => (st_seq (Δ1 := fun v3_s : Unit => [.fx Int a_numbers, .bo Int a_wanted.l, .fx Int v1_x]) (st_if (eb_test (ev_op (ov_eq sc_ii) (ev_op ov_and ev_var ev_var) ev_int)) (st_ret ev_bl) (st_nil () (Le.eq (Le.eq (Le.eq Le.nil)))))
        fun v3_s => (st_nil () (Le.eq (Le.eq (Le.un Le.nil))))))
        fun v4_s => (st_ret ev_bl))
theorem ok_least_meeting (Z : Fa K mg) : FnOk P w K mg base (L2.CX P w) 7 Z.f_least_meeting Z.fd_least_meeting ["lots"] (SpF ⟨K, Z.cls⟩ (fun t : (Cn (Sm2 (List (Sm2 (List Int) (Tup Int))) (Tup (Sm2 (List Int) (Tup Int)))) Nl) => w_least_meeting t.a)) := by
  refine def_ok _ Z.F_least_meeting sc_least_meeting rfl (by decide) fun cdv A outer s H E A0 Er t hr => ?_
  obtain ⟨a_lots, ⟨⟩⟩ := t
  refine ⟨_, (pss_cons (ps_set (i := 1) sc_least_meeting.nd rfl (Or.inr rfl) (pe_callB (call_srtS rfl) (by rfl) Z.z_sorted (by decide +kernel) (pa_cons (Co.pe_col2 (own := [("lot", 5), ("number", 6)]) (g := gName 5) (g1 := gName 6) (vs1 := [6]) (tt := tYes) (tt1 := tYes) (Co.colI _ _) rfl sc_least_meeting.nd (pi_eit (pv 0)) (blkOk_by (N := N_least_meeting) (sc := defScope s_least_meeting) (by decide +kernel)) (by decide) (fun _ _ _ _ _ => (pg_name (i := 5) sc_least_meeting.nd rfl (Or.inl rfl))) (fun _ _ _ _ _ => pts_nil) (fun _ _ _ _ _ => (pi_eitK (K := K) rfl (pv 5))) (fun _ _ _ _ _ => (pg_name (i := 6) sc_least_meeting.nd rfl (Or.inl rfl))) (fun _ _ _ _ _ => pts_nil) (fun _ _ _ _ _ => (pv 6))) pa_nil)))
        (pss_cons (ps_set (i := 2) sc_least_meeting.nd rfl (Or.inr rfl) (pe_call (ok_least_sets Z) (hr.mono (by decide)) (by rfl) Z.D_least_sets.g Z.D_least_sets.kp Z.D_least_sets.b .nil (pass_of (E := E) (takes_of rfl rfl rfl rfl)) (pa_cons (pv 0) pa_nil)))
        (pss_cons (ps_setLc (i := 3) (own := [("places", 4)]) (g := gName 4) (tt := tYes) rfl sc_least_meeting.nd rfl rfl (sw_true rfl rfl rfl (by decide +kernel)) (pi_list (pe_call (ok_all_lots Z) (hr.mono (by decide)) (by rfl) Z.D_all_lots.g Z.D_all_lots.kp Z.D_all_lots.b .nil (pass_of (E := E) (takes_of rfl rfl rfl rfl)) (pa_cons (pe_callB call_len_seq (by rfl) Z.z_len (by decide +kernel) (pa_cons (pv 1) pa_nil)) pa_nil))) (blkOk_by (N := N_least_meeting) (sc := defScope s_least_meeting) (by decide +kernel)) (fun _ _ _ _ _ => (pg_name (i := 4) sc_least_meeting.nd rfl (Or.inl rfl))) (fun _ _ _ _ _ => pts_nil) (fun _ _ _ _ _ => (pe_callTy (call_tuple_ofK (K := K) rfl) (by rfl) Z.z_tuple (by decide +kernel) (pa_cons (by exact (pe_lc (own := [("place", 7)]) (g := gName 7) (tt := tYes) rfl sc_least_meeting.nd (pi_tupK (K := K) rfl (pv 4)) (blkOk_by (N := N_least_meeting) (sc := ({ kind := .function, names := [(".0", .local), ("places", .local), ("tuple", .globalImplicit), ("numbers", .cell)], isGenerator := false, isCoroutine := false, more := [] } : Scope)) (by decide +kernel)) (fun _ _ _ _ _ => (pg_name (i := 7) sc_least_meeting.nd rfl (Or.inl rfl))) (fun _ _ _ _ _ => pts_nil) (fun _ _ _ _ _ => (pe_ix (ix_listK (K := K) rfl) (pv 1) (pv 7) (fun _ _ => rfl))))) pa_nil))))
        (pss_one (ps_ret (pe_call (ok_least_lots Z) (hr.mono (by decide)) (by rfl) Z.D_least_lots.g Z.D_least_lots.kp Z.D_least_lots.b .nil (pass_of (E := E) (takes_of rfl rfl rfl rfl)) (pa_cons (pe_lc (own := [("lot", 5)]) (g := gName 5) rfl sc_least_meeting.nd (pi_list (pv 3)) (blkOk_by (N := N_least_meeting) (sc := defScope s_least_meeting) (by decide +kernel)) (fun _ _ _ _ _ => (pg_name (i := 5) sc_least_meeting.nd rfl (Or.inl rfl))) (fun _ _ _ _ _ => (pts_one (pt_val (pe_call (ok_meets_all Z) (hr.mono (by decide)) (by rfl) Z.D_meets_all.g Z.D_meets_all.kp Z.D_meets_all.b .nil passL (pa_cons (pe_call (ok_set_of_Ti Z) (hr.mono (by decide)) (by rfl) Z.D_set_of.g Z.D_set_of.kp Z.D_set_of.b .nil passL (pa_cons (pv 5) pa_nil)) (pa_cons (pv 2) pa_nil)))))) (fun _ _ _ _ _ => (pv 5))) pa_nil))))))), ?_⟩
  show BodyOk _ _ [.fx (Sm2 (List (Sm2 (List Int) (Tup Int))) (Tup (Sm2 (List Int) (Tup Int)))) a_lots, .un, .un, .un, .un, .un, .un, .un] (w_least_meeting a_lots)
  exact bo_ret (Δ := fun _ : Unit => [.un, .un, .un, .un, .un, .un, .un, .un]) (ΔL := fun e : Empty => e.elim) (st_seq (Δ1 := fun v3_s : (List Int) => [.fx (Sm2 (List (Sm2 (List Int) (Tup Int))) (Tup (Sm2 (List Int) (Tup Int)))) a_lots, .fx (List Int) v3_s, .un, .un, .un, .un, .un, .un]) (st_set (i := 1) (ev_fr (ef_srtCol2 (ei_eit ev_var eg_name) (by decide) (fun _ => eb_yes) (fun v1_x => (ei_eit ev_var eg_name)) (fun _ _ => eb_yes) (fun v1_x v2_y => ev_var))))
        fun v3_s => (st_seq (Δ1 := fun v4_s : (List Int) => [.fx (Sm2 (List (Sm2 (List Int) (Tup Int))) (Tup (Sm2 (List Int) (Tup Int)))) a_lots, .fx (List Int) v3_s, .fx (List Int) v4_s, .un, .un, .un, .un, .un]) (st_set (i := 2) (ev_call (ea_cons ev_var ea_nil)))
        fun v4_s => (st_seq (Δ1 := fun v7_s : (List (Tup Int)) => [.fx (Sm2 (List (Sm2 (List Int) (Tup Int))) (Tup (Sm2 (List Int) (Tup Int)))) a_lots, .fx (List Int) v3_s, .fx (List Int) v4_s, .fx (List (Tup Int)) v7_s, .un, .un, .un, .un]) (st_set (i := 3) (ev_fr (ef_comp (ei_list (es_list (ev_call (ea_cons (ev_ca1 cv_lenL (ev_bor ev_var)) ea_nil))) eg_name) (fun _ => eb_yes) (fun v5_x => (ev_ca1 cv_tupL (ev_bor (ev_fr (ef_comp (ei_tup (es_tup ev_var) eg_name) (fun _ => eb_yes) (fun v6_x => (ev_op ov_ixL (ev_bor ev_var) ev_var))))))))))
        fun v7_s => (st_ret (ev_call (ea_cons (ev_bor (ev_fr (ef_comp (ei_list (es_list ev_var) eg_name) (fun v9_x => (eb_val (ev_call (ea_cons (ev_call (ea_cons ev_var ea_nil)) (ea_cons (ev_bor ev_var) ea_nil))))) (fun v9_x => ev_var)))) ea_nil))))))
theorem ok_l_set (Z : Fa K mg) : FnOk P w K mg base (L2.CX P w) 1 Z.f_l_set Z.fd_l_set ["_law_lot_here"] (SpF ⟨K, Z.cls⟩ (fun t : (Cn (Tup Int) Nl) => w_l_set t.a)) := by
  refine def_ok _ Z.F_l_set sc_l_set rfl (by decide) fun cdv A outer s H E A0 Er t hr => ?_
  obtain ⟨a_lot_here, ⟨⟩⟩ := t
  refine ⟨_, (pss_one (ps_ret (pe_callB (cr_sum rfl) (by rfl) Z.z_sum (by decide +kernel) (pa_cons (pe_lc (own := [("_law_number", 1)]) (g := gName 1) (tt := tYes) rfl sc_l_set.nd (pi_tup (pv 0)) (blkOk_by (N := N_l_set) (sc := defScope s_l_set) (by decide +kernel)) (fun _ _ _ _ _ => (pg_name (i := 1) sc_l_set.nd rfl (Or.inl rfl))) (fun _ _ _ _ _ => pts_nil) (fun _ _ _ _ _ => (pe_op op_shl pe_int (pv 1)))) pa_nil)))), ?_⟩
  show BodyOk _ _ [.fx (Tup Int) a_lot_here, .un] (w_l_set a_lot_here)
  exact bo_ret (Δ := fun _ : Unit => [.un, .un]) (ΔL := fun e : Empty => e.elim) (st_ret (by exact (ev_ca1 cv_sum (ev_bor (ev_fr (ef_comp (ei_tup (es_tup ev_var) eg_name) (fun _ => eb_yes) (fun v1_x => (ev_op ov_shl ev_int ev_var))))))))
theorem ok_l_is_number (Z : Fa K mg) : FnOk P w K mg base (L2.CX P w) 1 Z.f_l_is_number Z.fd_l_is_number ["_law_thing"] (SpF ⟨K, Z.cls⟩ (fun t : (Cn Int Nl) => w_l_is_number t.a)) := by
  refine def_ok _ Z.F_l_is_number sc_l_is_number rfl (by decide) fun cdv A outer s H E A0 Er t hr => ?_
  obtain ⟨a_thing, ⟨⟩⟩ := t
  refine ⟨_, (pss_one (ps_ret (pe_and (pe_callB call_isi (by rfl) Z.z_isinstance (by decide +kernel) (pa_cons (pv 0) (pa_cons (pe_bltn (v := .ty "int") (by rfl) Z.z_int (by decide +kernel) rfl) pa_nil))) (pe_one (pe_not (pe_callB call_isi (by rfl) Z.z_isinstance (by decide +kernel) (pa_cons (pv 0) (pa_cons (pe_bltn (v := .ty "bool") (by rfl) Z.z_bool (by decide +kernel) rfl) pa_nil)))))))), ?_⟩
  show BodyOk _ _ [.fx Int a_thing] (w_l_is_number a_thing)
  exact bo_ret (Δ := fun _ : Unit => [.un]) (ΔL := fun e : Empty => e.elim) (st_ret (ev_and (ev_isi kd_int (fun _ => true) (.ty "int") (fun _ => (kit_ty (by decide +kernel))) ev_var) (ev_not (ev_isi kd_int (fun _ => false) (.ty "bool") (fun _ => (kit_ty (by decide +kernel))) ev_var))))
theorem ok_l_set_Ri (Z : Fa K mg) : FnOk P w K mg base (L2.CX P w) 1 Z.f_l_set Z.fd_l_set ["_law_lot_here"] (SpF ⟨K, Z.cls⟩ (fun t : (Cn (Bor Int) Nl) => w_l_set_Ri t.a)) := by
  refine def_ok _ Z.F_l_set sc_l_set rfl (by decide) fun cdv A outer s H E A0 Er t hr => ?_
  obtain ⟨a_lot_here, ⟨⟩⟩ := t
  refine ⟨_, (pss_one (ps_ret (pe_callB (cr_sum rfl) (by rfl) Z.z_sum (by decide +kernel) (pa_cons (pe_lc (own := [("_law_number", 1)]) (g := gName 1) (tt := tYes) rfl sc_l_set.nd (pi_list (pv 0)) (blkOk_by (N := N_l_set) (sc := defScope s_l_set) (by decide +kernel)) (fun _ _ _ _ _ => (pg_name (i := 1) sc_l_set.nd rfl (Or.inl rfl))) (fun _ _ _ _ _ => pts_nil) (fun _ _ _ _ _ => (pe_op op_shl pe_int (pv 1)))) pa_nil)))), ?_⟩
  show BodyOk _ _ [.bo Int a_lot_here.l, .un] (w_l_set_Ri a_lot_here)
  exact bo_ret (Δ := fun _ : Unit => [.un, .un]) (ΔL := fun e : Empty => e.elim) (st_ret (by exact (ev_ca1 cv_sum (ev_bor (ev_fr (ef_comp (ei_list es_bo eg_name) (fun _ => eb_yes) (fun v1_x => (ev_op ov_shl ev_int ev_var))))))))
theorem ok_l_meeting (Z : Fa K mg) : FnOk P w K mg base (L2.CX P w) 3 Z.f_l_meeting Z.fd_l_meeting ["_law_masks", "_law_places_here"] (SpF ⟨K, Z.cls⟩ (fun t : (Cn (Bor Int) (Cn (Bor Int) Nl)) => w_l_meeting t.a t.r.a)) := by
  refine def_ok _ Z.F_l_meeting sc_l_meeting rfl (by decide) fun cdv A outer s H E A0 Er t hr => ?_
  obtain ⟨a_masks, a_places_here, ⟨⟩⟩ := t
  refine ⟨_, (pss_cons (ps_par (i := 2) (j := 3) (by rfl) sc_l_meeting.nd rfl rfl (by decide) rfl rfl (pa_cons (pe_call (ok_l_set_Ri Z) (hr.mono (by decide)) (by rfl) Z.D_l_set.g Z.D_l_set.kp Z.D_l_set.b .nil (pass_of (E := E) (takes_of rfl rfl rfl rfl)) (pa_cons (pv 1) pa_nil)) (pa_cons (pe_lst pa_nil) pa_nil)) (by rfl))
        (pss_cons (ps_for (passes_of rfl) rfl (pi_range1 (by rfl) Z.z_range (pa_cons (pe_op op_shl pe_int (pe_callB call_len_seq (by rfl) Z.z_len (by decide +kernel) (pa_cons (pv 1) pa_nil))) pa_nil)) (pg_name (i := 4) sc_l_meeting.nd rfl (Or.inr rfl)) (pss_cons (ps_set (i := 5) sc_l_meeting.nd rfl (Or.inr rfl) (pe_callB (cr_sum rfl) (by rfl) Z.z_sum (by decide +kernel) (pa_cons (pe_lc (own := [("_law_at", 8), ("_law_number", 7)]) (g := gTup K 2 (gCons (gName 8) (gCons (gName 7) gNil))) rfl sc_l_meeting.nd (pi_enum (by rfl) Z.z_enumerate (pa_cons (pv 1) pa_nil)) (blkOk_by (N := N_l_meeting) (sc := defScope s_l_meeting) (by decide +kernel)) (fun _ _ _ _ _ => (pg_tup rfl (pgs_cons (pg_name (i := 8) sc_l_meeting.nd rfl (Or.inl rfl)) (pgs_cons (pg_name (i := 7) sc_l_meeting.nd rfl (Or.inl rfl)) pgs_nil)))) (fun _ _ _ _ _ => (pts_one (pt_cmpR op_eq (pe_op op_and (pe_op op_shr (pv 4) (pv 8)) pe_int) pe_int (nomark _)))) (fun _ _ _ _ _ => (pe_op op_shl pe_int (pv 7)))) pa_nil)))
        (pss_cons (ps_if (pt_not (pt_val (pe_callB (cr_all rfl) (by rfl) Z.z_all (by decide +kernel) (pa_cons (pe_lc (own := [("_law_mask", 9)]) (g := gName 9) (tt := tYes) rfl sc_l_meeting.nd (pi_list (pv 0)) (blkOk_by (N := N_l_meeting) (sc := defScope s_l_meeting) (by decide +kernel)) (fun _ _ _ _ _ => (pg_name (i := 9) sc_l_meeting.nd rfl (Or.inl rfl))) (fun _ _ _ _ _ => pts_nil) (fun _ _ _ _ _ => (pe_cmpR op_ne (pe_op op_and (pv 5) (pv 9)) pe_int (nomark _)))) pa_nil)))) (pss_one ps_continue) pss_nil)
        (pss_cons (ps_setLc (i := 6) (own := [("_law_number", 7)]) (g := gName 7) rfl sc_l_meeting.nd rfl rfl (sw_true rfl rfl rfl (by decide +kernel)) (pi_list (pv 1)) (blkOk_by (N := N_l_meeting) (sc := defScope s_l_meeting) (by decide +kernel)) (fun _ _ _ _ _ => (pg_name (i := 7) sc_l_meeting.nd rfl (Or.inl rfl))) (fun _ _ _ _ _ => (pts_one (pt_cmpR op_eq (pe_op op_and (pe_op op_shr (pv 5) (pv 7)) pe_int) pe_int (nomark _)))) (fun _ _ _ _ _ => (pe_op op_and (pv 5) (pe_un un_inv (pe_op op_shl pe_int (pv 7))))))
        (pss_cons (ps_if (pt_not (pt_val (pe_callB (cr_any rfl) (by rfl) Z.z_any (by decide +kernel) (pa_cons (pe_lc (own := [("_law_part", 10)]) (g := gName 10) (tt := tYes) rfl sc_l_meeting.nd (pi_list (pv 6)) (blkOk_by (N := N_l_meeting) (sc := defScope s_l_meeting) (by decide +kernel)) (fun _ _ _ _ _ => (pg_name (i := 10) sc_l_meeting.nd rfl (Or.inr rfl))) (fun _ _ _ _ _ => pts_nil) (fun _ _ _ _ _ => (pe_callB (cr_allK (K := K) rfl rfl) (by rfl) Z.z_all (by decide +kernel) (pa_cons (by exact (pe_lc (own := [("_law_mask", 9)]) (g := gName 9) (tt := tYes) rfl sc_l_meeting.nd (pi_listK (K := K) rfl (pv 0)) (blkOk_by (N := N_l_meeting) (sc := ({ kind := .function, names := [(".0", .local), ("_law_part", .cell), ("all", .globalImplicit), ("_law_masks", .cell)], isGenerator := false, isCoroutine := false, more := [] } : Scope)) (by decide +kernel)) (fun _ _ _ _ _ => (pg_name (i := 9) sc_l_meeting.nd rfl (Or.inl rfl))) (fun _ _ _ _ _ => pts_nil) (fun _ _ _ _ _ => (pe_cmpR op_ne (pe_op op_and (pv 10) (pv 9)) pe_int (nomark _))))) pa_nil)))) pa_nil)))) (pss_cons (ps_expr (pe_bm PySem.F.plainAttrs_list PySem.F.slot_list_append PySem.F.type_list_append mt_append (pv 3) (pa_cons (pe_op op_and (pv 5) (pv 2)) pa_nil)))
        pss_nil) pss_nil)
        pss_nil)))))
        (pss_one (ps_ret (pv 3))))), ?_⟩
  show BodyOk _ _ [.bo Int a_masks.l, .bo Int a_places_here.l, .un, .un, .un, .un, .un, .un, .un, .un, .un] (w_l_meeting a_masks a_places_here)
  exact bo_ret (Δ := fun _ : Unit => [.un, .un, .un, .un, .un, .un, .un, .un, .un, .un, .un]) (ΔL := fun e : Empty => e.elim) (st_seq (Δ1 := fun v1_s : (T2 Int (List Int)) => [.bo Int a_masks.l, .bo Int a_places_here.l, .fx Int v1_s.a, .mu Int v1_s.b, .un, .un, .un, .un, .un, .un, .un]) (st_parFM (ev_call (ea_cons ev_bo ea_nil)) (ef_lst es_nil))
        fun v1_s => (st_seq (Δ1 := fun v14_s : (List Int) => [.bo Int a_masks.l, .bo Int a_places_here.l, .fx Int v1_s.a, .mu Int v14_s, .un, .un, .un, .un, .un, .un, .un]) (st_for (Δ := fun v3_s : (List Int) => [.bo Int a_masks.l, .bo Int a_places_here.l, .fx Int v1_s.a, .mu Int v3_s, .un, .un, .un, .un, .un, .un, .un]) (v1_s.b) (ei_range1 (ev_op ov_shl ev_int (ev_ca1 cv_lenL ev_bo)) eg_name) (Le.eq (Le.eq (Le.eq (Le.eq (Le.eq (Le.eq (Le.eq (Le.eq (Le.eq (Le.eq (Le.eq Le.nil))))))))))) (fun _ => rfl) fun v2_x v3_s => (st_seq (Δ1 := fun v5_s : Int => [.bo Int a_masks.l, .bo Int a_places_here.l, .fx Int v1_s.a, .mu Int v3_s, .fx Int v2_x, .fx Int v5_s, .un, .un, .un, .un, .un]) (st_set (i := 5) (by exact (ev_ca1 cv_sum (ev_bor (ev_fr (ef_comp (ei_enum es_bo (eg_2 eg_name eg_name)) (fun v4_x => (eb_test (ev_op (ov_eq sc_ii) (ev_op ov_and (ev_op ov_shr ev_var ev_var) ev_int) ev_int))) (fun v4_x => (ev_op ov_shl ev_int ev_var))))))))
        fun v5_s => (st_seq (Δ1 := fun v7_s : Unit => [.bo Int a_masks.l, .bo Int a_places_here.l, .fx Int v1_s.a, .mu Int v3_s, .fx Int v2_x, .fx Int v5_s, .un, .un, .un, .un, .un]) (st_if (eb_not (eb_val (by exact (ev_ca1 cv_all (ev_bor (ev_fr (ef_comp (ei_list es_bo eg_name) (fun _ => eb_yes) (fun v6_x => (ev_op (ov_ne sc_ii) (ev_op ov_and ev_var ev_var) ev_int))))))))) (st_ct (v3_s) (Le.eq (Le.eq (Le.eq (Le.eq (Le.un (Le.un (Le.eq (Le.eq (Le.eq (Le.eq (Le.eq Le.nil)))))))))))) (st_nil () (Le.eq (Le.eq (Le.eq (Le.eq (Le.eq (Le.eq (Le.eq (Le.eq (Le.eq (Le.eq (Le.eq Le.nil)))))))))))))
        fun v7_s => (st_seq (Δ1 := fun v9_s : (List Int) => [.bo Int a_masks.l, .bo Int a_places_here.l, .fx Int v1_s.a, .mu Int v3_s, .fx Int v2_x, .fx Int v5_s, .fx (List Int) v9_s, .un, .un, .un, .un]) (st_set (i := 6) (ev_fr (ef_comp (ei_list es_bo eg_name) (fun v8_x => (eb_test (ev_op (ov_eq sc_ii) (ev_op ov_and (ev_op ov_shr ev_var ev_var) ev_int) ev_int))) (fun v8_x => (ev_op ov_and ev_var (ev_un uv_inv (ev_op ov_shl ev_int ev_var)))))))
        fun v9_s => (st_seq (Δ1 := fun v13_s : (List Int) => [.bo Int a_masks.l, .bo Int a_places_here.l, .fx Int v1_s.a, .mu Int v13_s, .fx Int v2_x, .fx Int v5_s, .fx (List Int) v9_s, .un, .un, .un, .un]) (st_if (eb_not (eb_val (by exact (ev_ca1 cv_any (ev_bor (ev_fr (ef_comp (ei_list (es_list ev_var) eg_name) (fun _ => eb_yes) (fun v10_x => (by exact (ev_ca1 cv_all (ev_bor (ev_fr (ef_comp (ei_list es_bo eg_name) (fun _ => eb_yes) (fun v11_x => (ev_op (ov_ne sc_ii) (ev_op ov_and ev_var ev_var) ev_int))))))))))))))) (st_seq (Δ1 := fun v12_s : (List Int) => [.bo Int a_masks.l, .bo Int a_places_here.l, .fx Int v1_s.a, .mu Int v12_s, .fx Int v2_x, .fx Int v5_s, .fx (List Int) v9_s, .un, .un, .un, .un]) (st_map (fun a => v3_s ++ [a]) (st_app (i := 3) (ev_op ov_and ev_var ev_var)) fun _ => (Le.eq (Le.eq (Le.eq (Le.eq (Le.eq (Le.eq (Le.eq (Le.eq (Le.eq (Le.eq (Le.eq Le.nil))))))))))))
        fun v12_s => (st_nil (v12_s) (Le.eq (Le.eq (Le.eq (Le.eq (Le.eq (Le.eq (Le.eq (Le.eq (Le.eq (Le.eq (Le.eq Le.nil))))))))))))) (st_nil (v3_s) (Le.eq (Le.eq (Le.eq (Le.eq (Le.eq (Le.eq (Le.eq (Le.eq (Le.eq (Le.eq (Le.eq Le.nil)))))))))))))
        fun v13_s => (st_nil (v13_s) (Le.eq (Le.eq (Le.eq (Le.eq (Le.un (Le.un (Le.un (Le.eq (Le.eq (Le.eq (Le.eq Le.nil)))))))))))))))))
        fun v14_s => st_retM))
theorem ok_l_lot_2 (Z : Fa K mg) : FnOk P w K mg base (L2.CX P w) 1 Z.f_l_lot Z.fd_l_lot ["_law_mask"] (SpF ⟨K, Z.cls⟩ (fun t : (Cn Int Nl) => w_l_lot_2 t.a)) := by
  refine def_ok _ Z.F_l_lot sc_l_lot rfl (by decide) fun cdv A outer s H E A0 Er t hr => ?_
  obtain ⟨a_mask, ⟨⟩⟩ := t
  refine ⟨_, (pss_one (ps_ret (pe_callTy call_tuple_of (by rfl) Z.z_tuple (by decide +kernel) (pa_cons (pe_lc (own := [("_law_number", 1)]) (g := gName 1) rfl sc_l_lot.nd (pi_range1 (by rfl) Z.z_range (pa_cons pe_int pa_nil)) (blkOk_by (N := N_l_lot) (sc := defScope s_l_lot) (by decide +kernel)) (fun _ _ _ _ _ => (pg_name (i := 1) sc_l_lot.nd rfl (Or.inl rfl))) (fun _ _ _ _ _ => (pts_one (pt_cmpR op_eq (pe_op op_and (pe_op op_shr (pv 0) (pv 1)) pe_int) pe_int (nomark _)))) (fun _ _ _ _ _ => (pv 1))) pa_nil)))), ?_⟩
  show BodyOk _ _ [.fx Int a_mask, .un] (w_l_lot_2 a_mask)
  exact bo_ret (Δ := fun _ : Unit => [.un, .un]) (ΔL := fun e : Empty => e.elim) (st_ret (ev_ca1 cv_tupL (ev_bor (ev_fr (ef_comp (ei_range1 ev_int eg_name) (fun v1_x => (eb_test (ev_op (ov_eq sc_ii) (ev_op ov_and (ev_op ov_shr ev_var ev_var) ev_int) ev_int))) (fun v1_x => ev_var))))))
theorem ok_l_sorted (Z : Fa K mg) : FnOk P w K mg base (L2.CX P w) 3 Z.f_l_sorted Z.fd_l_sorted ["_law_masks"] (SpFr ⟨K, Z.cls⟩ (fun t : (Cn (Bor Int) Nl) => w_l_sorted t.a)) := by
  refine def_okF _ Z.F_l_sorted sc_l_sorted rfl (by decide) fun cdv A outer s H E A0 Er t hr => ?_
  obtain ⟨a_masks, ⟨⟩⟩ := t
  refine ⟨_, (pss_one (ps_ret (pe_lc (own := [("_law_pair", 1)]) (g := gName 1) (tt := tYes) rfl sc_l_sorted.nd (pi_list (pe_callB (cr_srtDK (K := K) rfl hr.units) (by rfl) Z.z_sorted (by decide +kernel) (pa_cons (pe_lc (own := [("_law_mask", 2)]) (g := gName 2) (tt := tYes) rfl sc_l_sorted.nd (pi_list (pv 0)) (blkOk_by (N := N_l_sorted) (sc := defScope s_l_sorted) (by decide +kernel)) (fun _ _ _ _ _ => (pg_name (i := 2) sc_l_sorted.nd rfl (Or.inl rfl))) (fun _ _ _ _ _ => pts_nil) (fun _ _ _ _ _ => (pe_tup (pa_cons (pe_callB (call_lenK (K := K) rfl) (by rfl) Z.z_len (by decide +kernel) (pa_cons (pe_call (ok_l_lot_2 Z) (hr.mono (by decide)) (by rfl) Z.D_l_lot.g Z.D_l_lot.kp Z.D_l_lot.b .nil passL (pa_cons (pv 2) pa_nil)) pa_nil)) (pa_cons (pe_call (ok_l_lot_2 Z) (hr.mono (by decide)) (by rfl) Z.D_l_lot.g Z.D_l_lot.kp Z.D_l_lot.b .nil passL (pa_cons (pv 2) pa_nil)) pa_nil))))) pa_nil))) (blkOk_by (N := N_l_sorted) (sc := defScope s_l_sorted) (by decide +kernel)) (fun _ _ _ _ _ => (pg_name (i := 1) sc_l_sorted.nd rfl (Or.inl rfl))) (fun _ _ _ _ _ => pts_nil) (fun _ _ _ _ _ => (pe_ix (ix_tupK (K := K) rfl) (pv 1) pe_int (fun _ _ => rfl)))))), ?_⟩
  show EvF _ _ [.bo Int a_masks.l, .un, .un] (w_l_sorted a_masks)
  exact (ef_comp (ei_list (es_list (ev_fr (ef_srtD (ev_bor (ev_fr (ef_comp (ei_list es_bo eg_name) (fun _ => eb_yes) (fun v2_x => (ev_t2 (ev_ca1 cv_lenT (ev_call (ea_cons ev_var ea_nil))) (ev_call (ea_cons ev_var ea_nil)))))))))) eg_name) (fun _ => eb_yes) (fun v3_x => (ev_2b ev_var)))
theorem ok_least_sets_TTi (Z : Fa K mg) : FnOk P w K mg base (L2.CX P w) 5 Z.f_least_sets Z.fd_least_sets ["lots"] (SpF ⟨K, Z.cls⟩ (fun t : (Cn (Tup (Tup Int)) Nl) => w_least_sets_TTi t.a)) := by
  refine def_ok _ Z.F_least_sets sc_least_sets rfl (by decide) fun cdv A outer s H E A0 Er t hr => ?_
  obtain ⟨a_lots, ⟨⟩⟩ := t
  refine ⟨_, (pss_cons (ps_set (i := 1) sc_least_sets.nd rfl (Or.inl rfl) (pe_callB (cr_srtDK (K := K) rfl hr.units) (by rfl) Z.z_sorted (by decide +kernel) (pa_cons (pe_lc (own := [("lot", 2)]) (g := gName 2) (tt := tYes) rfl sc_least_sets.nd (pi_tup (pv 0)) (blkOk_by (N := N_least_sets) (sc := defScope s_least_sets) (by decide +kernel)) (fun _ _ _ _ _ => (pg_name (i := 2) sc_least_sets.nd rfl (Or.inl rfl))) (fun _ _ _ _ _ => pts_nil) (fun _ _ _ _ _ => (pe_tup (pa_cons (pe_callB (call_lenK (K := K) rfl) (by rfl) Z.z_len (by decide +kernel) (pa_cons (pv 2) pa_nil)) (pa_cons (pe_callTy (call_tuple_ofK (K := K) rfl) (by rfl) Z.z_tuple (by decide +kernel) (pa_cons (pv 2) pa_nil)) pa_nil))))) pa_nil)))
        (pss_one (ps_ret (pe_lc (own := [("lot", 2)]) (g := gName 2) (tt := tYes) rfl sc_least_sets.nd (pi_tup (pe_call (ok_least_lots Z) (hr.mono (by decide)) (by rfl) Z.D_least_lots.g Z.D_least_lots.kp Z.D_least_lots.b .nil (pass_of (E := E) (takes_of rfl rfl rfl rfl)) (pa_cons (pe_lc (own := [("_", 3), ("lot", 2)]) (g := gTup K 2 (gCons (gName 3) (gCons (gName 2) gNil))) (tt := tYes) rfl sc_least_sets.nd (pi_list (pv 1)) (blkOk_by (N := N_least_sets) (sc := defScope s_least_sets) (by decide +kernel)) (fun _ _ _ _ _ => (pg_tup rfl (pgs_cons (pg_name (i := 3) sc_least_sets.nd rfl (Or.inl rfl)) (pgs_cons (pg_name (i := 2) sc_least_sets.nd rfl (Or.inl rfl)) pgs_nil)))) (fun _ _ _ _ _ => pts_nil) (fun _ _ _ _ _ => (pv 2))) pa_nil))) (blkOk_by (N := N_least_sets) (sc := defScope s_least_sets) (by decide +kernel)) (fun _ _ _ _ _ => (pg_name (i := 2) sc_least_sets.nd rfl (Or.inl rfl))) (fun _ _ _ _ _ => pts_nil) (fun _ _ _ _ _ => (pe_call (ok_set_of_Ti Z) (hr.mono (by decide)) (by rfl) Z.D_set_of.g Z.D_set_of.kp Z.D_set_of.b .nil passL (pa_cons (pv 2) pa_nil))))))), ?_⟩
  show BodyOk _ _ [.fx (Tup (Tup Int)) a_lots, .un, .un, .un] (w_least_sets_TTi a_lots)
  exact bo_ret (Δ := fun _ : Unit => [.un, .un, .un, .un]) (ΔL := fun e : Empty => e.elim) (st_seq (Δ1 := fun v2_s : (List (T2 Int (Tup Int))) => [.fx (Tup (Tup Int)) a_lots, .fx (List (T2 Int (Tup Int))) v2_s, .un, .un]) (st_set (i := 1) (ev_fr (ef_srtD (ev_bor (ev_fr (ef_comp (ei_tup (es_tup ev_var) eg_name) (fun _ => eb_yes) (fun v1_x => (ev_t2 (ev_ca1 cv_lenT ev_var) (ev_ca1 cv_tupT ev_var)))))))))
        fun v2_s => (st_ret (ev_fr (ef_comp (ei_tup (es_tup (ev_call (ea_cons (ev_bor (ev_fr (ef_comp (ei_list (es_list ev_var) (eg_2 eg_name eg_name)) (fun _ => eb_yes) (fun v10_x => ev_var)))) ea_nil))) eg_name) (fun _ => eb_yes) (fun v11_x => (ev_call (ea_cons ev_var ea_nil)))))))
theorem ok_least_meeting_TTi (Z : Fa K mg) : FnOk P w K mg base (L2.CX P w) 7 Z.f_least_meeting Z.fd_least_meeting ["lots"] (SpF ⟨K, Z.cls⟩ (fun t : (Cn (Tup (Tup Int)) Nl) => w_least_meeting_TTi t.a)) := by
  refine def_ok _ Z.F_least_meeting sc_least_meeting rfl (by decide) fun cdv A outer s H E A0 Er t hr => ?_
  obtain ⟨a_lots, ⟨⟩⟩ := t
  refine ⟨_, (pss_cons (ps_set (i := 1) sc_least_meeting.nd rfl (Or.inr rfl) (pe_callB (call_srtS rfl) (by rfl) Z.z_sorted (by decide +kernel) (pa_cons (Co.pe_col2 (own := [("lot", 5), ("number", 6)]) (g := gName 5) (g1 := gName 6) (vs1 := [6]) (tt := tYes) (tt1 := tYes) (Co.colI _ _) rfl sc_least_meeting.nd (pi_tup (pv 0)) (blkOk_by (N := N_least_meeting) (sc := defScope s_least_meeting) (by decide +kernel)) (by decide) (fun _ _ _ _ _ => (pg_name (i := 5) sc_least_meeting.nd rfl (Or.inl rfl))) (fun _ _ _ _ _ => pts_nil) (fun _ _ _ _ _ => (pi_tupK (K := K) rfl (pv 5))) (fun _ _ _ _ _ => (pg_name (i := 6) sc_least_meeting.nd rfl (Or.inl rfl))) (fun _ _ _ _ _ => pts_nil) (fun _ _ _ _ _ => (pv 6))) pa_nil)))
        (pss_cons (ps_set (i := 2) sc_least_meeting.nd rfl (Or.inr rfl) (pe_call (ok_least_sets_TTi Z) (hr.mono (by decide)) (by rfl) Z.D_least_sets.g Z.D_least_sets.kp Z.D_least_sets.b .nil (pass_of (E := E) (takes_of rfl rfl rfl rfl)) (pa_cons (pv 0) pa_nil)))
        (pss_cons (ps_setLc (i := 3) (own := [("places", 4)]) (g := gName 4) (tt := tYes) rfl sc_least_meeting.nd rfl rfl (sw_true rfl rfl rfl (by decide +kernel)) (pi_list (pe_call (ok_all_lots Z) (hr.mono (by decide)) (by rfl) Z.D_all_lots.g Z.D_all_lots.kp Z.D_all_lots.b .nil (pass_of (E := E) (takes_of rfl rfl rfl rfl)) (pa_cons (pe_callB call_len_seq (by rfl) Z.z_len (by decide +kernel) (pa_cons (pv 1) pa_nil)) pa_nil))) (blkOk_by (N := N_least_meeting) (sc := defScope s_least_meeting) (by decide +kernel)) (fun _ _ _ _ _ => (pg_name (i := 4) sc_least_meeting.nd rfl (Or.inl rfl))) (fun _ _ _ _ _ => pts_nil) (fun _ _ _ _ _ => (pe_callTy (call_tuple_ofK (K := K) rfl) (by rfl) Z.z_tuple (by decide +kernel) (pa_cons (by exact (pe_lc (own := [("place", 7)]) (g := gName 7) (tt := tYes) rfl sc_least_meeting.nd (pi_tupK (K := K) rfl (pv 4)) (blkOk_by (N := N_least_meeting) (sc := ({ kind := .function, names := [(".0", .local), ("places", .local), ("tuple", .globalImplicit), ("numbers", .cell)], isGenerator := false, isCoroutine := false, more := [] } : Scope)) (by decide +kernel)) (fun _ _ _ _ _ => (pg_name (i := 7) sc_least_meeting.nd rfl (Or.inl rfl))) (fun _ _ _ _ _ => pts_nil) (fun _ _ _ _ _ => (pe_ix (ix_listK (K := K) rfl) (pv 1) (pv 7) (fun _ _ => rfl))))) pa_nil))))
        (pss_one (ps_ret (pe_call (ok_least_lots Z) (hr.mono (by decide)) (by rfl) Z.D_least_lots.g Z.D_least_lots.kp Z.D_least_lots.b .nil (pass_of (E := E) (takes_of rfl rfl rfl rfl)) (pa_cons (pe_lc (own := [("lot", 5)]) (g := gName 5) rfl sc_least_meeting.nd (pi_list (pv 3)) (blkOk_by (N := N_least_meeting) (sc := defScope s_least_meeting) (by decide +kernel)) (fun _ _ _ _ _ => (pg_name (i := 5) sc_least_meeting.nd rfl (Or.inl rfl))) (fun _ _ _ _ _ => (pts_one (pt_val (pe_call (ok_meets_all Z) (hr.mono (by decide)) (by rfl) Z.D_meets_all.g Z.D_meets_all.kp Z.D_meets_all.b .nil passL (pa_cons (pe_call (ok_set_of_Ti Z) (hr.mono (by decide)) (by rfl) Z.D_set_of.g Z.D_set_of.kp Z.D_set_of.b .nil passL (pa_cons (pv 5) pa_nil)) (pa_cons (pv 2) pa_nil)))))) (fun _ _ _ _ _ => (pv 5))) pa_nil))))))), ?_⟩
  show BodyOk _ _ [.fx (Tup (Tup Int)) a_lots, .un, .un, .un, .un, .un, .un, .un] (w_least_meeting_TTi a_lots)
  exact bo_ret (Δ := fun _ : Unit => [.un, .un, .un, .un, .un, .un, .un, .un]) (ΔL := fun e : Empty => e.elim) (st_seq (Δ1 := fun v3_s : (List Int) => [.fx (Tup (Tup Int)) a_lots, .fx (List Int) v3_s, .un, .un, .un, .un, .un, .un]) (st_set (i := 1) (ev_fr (ef_srtCol2 (ei_tup (es_tup ev_var) eg_name) (by decide) (fun _ => eb_yes) (fun v1_x => (ei_tup (es_tup ev_var) eg_name)) (fun _ _ => eb_yes) (fun v1_x v2_y => ev_var))))
        fun v3_s => (st_seq (Δ1 := fun v4_s : (List Int) => [.fx (Tup (Tup Int)) a_lots, .fx (List Int) v3_s, .fx (List Int) v4_s, .un, .un, .un, .un, .un]) (st_set (i := 2) (ev_call (ea_cons ev_var ea_nil)))
        fun v4_s => (st_seq (Δ1 := fun v7_s : (List (Tup Int)) => [.fx (Tup (Tup Int)) a_lots, .fx (List Int) v3_s, .fx (List Int) v4_s, .fx (List (Tup Int)) v7_s, .un, .un, .un, .un]) (st_set (i := 3) (ev_fr (ef_comp (ei_list (es_list (ev_call (ea_cons (ev_ca1 cv_lenL (ev_bor ev_var)) ea_nil))) eg_name) (fun _ => eb_yes) (fun v5_x => (ev_ca1 cv_tupL (ev_bor (ev_fr (ef_comp (ei_tup (es_tup ev_var) eg_name) (fun _ => eb_yes) (fun v6_x => (ev_op ov_ixL (ev_bor ev_var) ev_var))))))))))
        fun v7_s => (st_ret (ev_call (ea_cons (ev_bor (ev_fr (ef_comp (ei_list (es_list ev_var) eg_name) (fun v9_x => (eb_val (ev_call (ea_cons (ev_call (ea_cons ev_var ea_nil)) (ea_cons (ev_bor ev_var) ea_nil))))) (fun v9_x => ev_var)))) ea_nil))))))
theorem ok_l_barest (Z : Fa K mg) : FnOk P w K mg base (L2.CX P w) 1 Z.f_l_barest Z.fd_l_barest ["_law_masks"] (SpF ⟨K, Z.cls⟩ (fun t : (Cn (Bor Int) Nl) => w_l_barest t.a)) := by
  refine def_ok _ Z.F_l_barest sc_l_barest rfl (by decide) fun cdv A outer s H E A0 Er t hr => ?_
  obtain ⟨a_masks, ⟨⟩⟩ := t
  refine ⟨_, (pss_cons (ps_set (i := 1) sc_l_barest.nd rfl (Or.inl rfl) (pe_lst pa_nil))
        (pss_cons (ps_for (passes_of rfl) rfl (pi_list (pv 0)) (pg_name (i := 2) sc_l_barest.nd rfl (Or.inr rfl)) (pss_cons (ps_if (PW.pt (pw_and (pt_cmpR op_notIn_seq (pv 2) (pv 1) (by rfl)) (pw_and1 (pt_not (pt_val (pe_callB (cr_any rfl) (by rfl) Z.z_any (by decide +kernel) (pa_cons (pe_lc (own := [("_law_other", 3)]) (g := gName 3) (tt := tYes) rfl sc_l_barest.nd (pi_list (pv 0)) (blkOk_by (N := N_l_barest) (sc := defScope s_l_barest) (by decide +kernel)) (fun _ _ _ _ _ => (pg_name (i := 3) sc_l_barest.nd rfl (Or.inl rfl))) (fun _ _ _ _ _ => pts_nil) (fun _ _ _ _ _ => (pe_and (pe_cmpR op_ne (pv 3) (pv 2) (nomark _)) (pe_one (pe_cmpR op_eq (pe_op op_and (pv 3) (pv 2)) (pv 3) (nomark _)))))) pa_nil))))))) (pss_cons (ps_expr (pe_bm PySem.F.plainAttrs_list PySem.F.slot_list_append PySem.F.type_list_append mt_append (pv 1) (pa_cons (pv 2) pa_nil)))
        pss_nil) pss_nil)
        pss_nil))
        (pss_one (ps_ret (pv 1))))), ?_⟩
  show BodyOk _ _ [.bo Int a_masks.l, .un, .un, .un] (w_l_barest a_masks)
  exact bo_ret (Δ := fun _ : Unit => [.un, .un, .un, .un]) (ΔL := fun e : Empty => e.elim) (st_seq (Δ1 := fun v1_s : (List Int) => [.bo Int a_masks.l, .mu Int v1_s, .un, .un]) (st_setM (i := 1) (ef_lst es_nil))
        fun v1_s => (st_seq (Δ1 := fun v7_s : (List Int) => [.bo Int a_masks.l, .mu Int v7_s, .un, .un]) (st_for (Δ := fun v3_s : (List Int) => [.bo Int a_masks.l, .mu Int v3_s, .un, .un]) (v1_s) (ei_list es_bo eg_name) (Le.eq (Le.eq (Le.eq (Le.eq Le.nil)))) (fun _ => rfl) fun v2_x v3_s => (st_seq (Δ1 := fun v6_s : (List Int) => [.bo Int a_masks.l, .mu Int v6_s, .fx Int v2_x, .un]) (st_if (eb_and (eb_test (ev_op ov_notinL ev_var ev_mu)) (eb_not (eb_val (by exact (ev_ca1 cv_any (ev_bor (ev_fr (ef_comp (ei_list es_bo eg_name) (fun _ => eb_yes) (fun v4_x => (ev_and (ev_op (ov_ne sc_ii) ev_var ev_var) (ev_op (ov_eq sc_ii) (ev_op ov_and ev_var ev_var) ev_var))))))))))) (st_seq (Δ1 := fun v5_s : (List Int) => [.bo Int a_masks.l, .mu Int v5_s, .fx Int v2_x, .un]) (st_map (fun a => v3_s ++ [a]) (st_app (i := 1) ev_var) fun _ => (Le.eq (Le.eq (Le.eq (Le.eq Le.nil)))))
        fun v5_s => (st_nil (v5_s) (Le.eq (Le.eq (Le.eq (Le.eq Le.nil)))))) (st_nil (v3_s) (Le.eq (Le.eq (Le.eq (Le.eq Le.nil))))))
        fun v6_s => (st_nil (v6_s) (Le.eq (Le.eq (Le.un (Le.eq Le.nil)))))))
        fun v7_s => st_retM))
theorem ok_least_sets_RTi (Z : Fa K mg) : FnOk P w K mg base (L2.CX P w) 5 Z.f_least_sets Z.fd_least_sets ["lots"] (SpF ⟨K, Z.cls⟩ (fun t : (Cn (Bor (Tup Int)) Nl) => w_least_sets_RTi t.a)) := by
  refine def_ok _ Z.F_least_sets sc_least_sets rfl (by decide) fun cdv A outer s H E A0 Er t hr => ?_
  obtain ⟨a_lots, ⟨⟩⟩ := t
  refine ⟨_, (pss_cons (ps_set (i := 1) sc_least_sets.nd rfl (Or.inl rfl) (pe_callB (cr_srtDK (K := K) rfl hr.units) (by rfl) Z.z_sorted (by decide +kernel) (pa_cons (pe_lc (own := [("lot", 2)]) (g := gName 2) (tt := tYes) rfl sc_least_sets.nd (pi_list (pv 0)) (blkOk_by (N := N_least_sets) (sc := defScope s_least_sets) (by decide +kernel)) (fun _ _ _ _ _ => (pg_name (i := 2) sc_least_sets.nd rfl (Or.inl rfl))) (fun _ _ _ _ _ => pts_nil) (fun _ _ _ _ _ => (pe_tup (pa_cons (pe_callB (call_lenK (K := K) rfl) (by rfl) Z.z_len (by decide +kernel) (pa_cons (pv 2) pa_nil)) (pa_cons (pe_callTy (call_tuple_ofK (K := K) rfl) (by rfl) Z.z_tuple (by decide +kernel) (pa_cons (pv 2) pa_nil)) pa_nil))))) pa_nil)))
        (pss_one (ps_ret (pe_lc (own := [("lot", 2)]) (g := gName 2) (tt := tYes) rfl sc_least_sets.nd (pi_tup (pe_call (ok_least_lots Z) (hr.mono (by decide)) (by rfl) Z.D_least_lots.g Z.D_least_lots.kp Z.D_least_lots.b .nil (pass_of (E := E) (takes_of rfl rfl rfl rfl)) (pa_cons (pe_lc (own := [("_", 3), ("lot", 2)]) (g := gTup K 2 (gCons (gName 3) (gCons (gName 2) gNil))) (tt := tYes) rfl sc_least_sets.nd (pi_list (pv 1)) (blkOk_by (N := N_least_sets) (sc := defScope s_least_sets) (by decide +kernel)) (fun _ _ _ _ _ => (pg_tup rfl (pgs_cons (pg_name (i := 3) sc_least_sets.nd rfl (Or.inl rfl)) (pgs_cons (pg_name (i := 2) sc_least_sets.nd rfl (Or.inl rfl)) pgs_nil)))) (fun _ _ _ _ _ => pts_nil) (fun _ _ _ _ _ => (pv 2))) pa_nil))) (blkOk_by (N := N_least_sets) (sc := defScope s_least_sets) (by decide +kernel)) (fun _ _ _ _ _ => (pg_name (i := 2) sc_least_sets.nd rfl (Or.inl rfl))) (fun _ _ _ _ _ => pts_nil) (fun _ _ _ _ _ => (pe_call (ok_set_of_Ti Z) (hr.mono (by decide)) (by rfl) Z.D_set_of.g Z.D_set_of.kp Z.D_set_of.b .nil passL (pa_cons (pv 2) pa_nil))))))), ?_⟩
  show BodyOk _ _ [.bo (Tup Int) a_lots.l, .un, .un, .un] (w_least_sets_RTi a_lots)
  exact bo_ret (Δ := fun _ : Unit => [.un, .un, .un, .un]) (ΔL := fun e : Empty => e.elim) (st_seq (Δ1 := fun v2_s : (List (T2 Int (Tup Int))) => [.bo (Tup Int) a_lots.l, .fx (List (T2 Int (Tup Int))) v2_s, .un, .un]) (st_set (i := 1) (ev_fr (ef_srtD (ev_bor (ev_fr (ef_comp (ei_list es_bo eg_name) (fun _ => eb_yes) (fun v1_x => (ev_t2 (ev_ca1 cv_lenT ev_var) (ev_ca1 cv_tupT ev_var)))))))))
        fun v2_s => (st_ret (ev_fr (ef_comp (ei_tup (es_tup (ev_call (ea_cons (ev_bor (ev_fr (ef_comp (ei_list (es_list ev_var) (eg_2 eg_name eg_name)) (fun _ => eb_yes) (fun v10_x => ev_var)))) ea_nil))) eg_name) (fun _ => eb_yes) (fun v11_x => (ev_call (ea_cons ev_var ea_nil)))))))
theorem ok_least_meeting_RTi (Z : Fa K mg) : FnOk P w K mg base (L2.CX P w) 7 Z.f_least_meeting Z.fd_least_meeting ["lots"] (SpF ⟨K, Z.cls⟩ (fun t : (Cn (Bor (Tup Int)) Nl) => w_least_meeting_RTi t.a)) := by
  refine def_ok _ Z.F_least_meeting sc_least_meeting rfl (by decide) fun cdv A outer s H E A0 Er t hr => ?_
  obtain ⟨a_lots, ⟨⟩⟩ := t
  refine ⟨_, (pss_cons (ps_set (i := 1) sc_least_meeting.nd rfl (Or.inr rfl) (pe_callB (call_srtS rfl) (by rfl) Z.z_sorted (by decide +kernel) (pa_cons (Co.pe_col2 (own := [("lot", 5), ("number", 6)]) (g := gName 5) (g1 := gName 6) (vs1 := [6]) (tt := tYes) (tt1 := tYes) (Co.colI _ _) rfl sc_least_meeting.nd (pi_list (pv 0)) (blkOk_by (N := N_least_meeting) (sc := defScope s_least_meeting) (by decide +kernel)) (by decide) (fun _ _ _ _ _ => (pg_name (i := 5) sc_least_meeting.nd rfl (Or.inl rfl))) (fun _ _ _ _ _ => pts_nil) (fun _ _ _ _ _ => (pi_tupK (K := K) rfl (pv 5))) (fun _ _ _ _ _ => (pg_name (i := 6) sc_least_meeting.nd rfl (Or.inl rfl))) (fun _ _ _ _ _ => pts_nil) (fun _ _ _ _ _ => (pv 6))) pa_nil)))
        (pss_cons (ps_set (i := 2) sc_least_meeting.nd rfl (Or.inr rfl) (pe_call (ok_least_sets_RTi Z) (hr.mono (by decide)) (by rfl) Z.D_least_sets.g Z.D_least_sets.kp Z.D_least_sets.b .nil (pass_of (E := E) (takes_of rfl rfl rfl rfl)) (pa_cons (pv 0) pa_nil)))
        (pss_cons (ps_setLc (i := 3) (own := [("places", 4)]) (g := gName 4) (tt := tYes) rfl sc_least_meeting.nd rfl rfl (sw_true rfl rfl rfl (by decide +kernel)) (pi_list (pe_call (ok_all_lots Z) (hr.mono (by decide)) (by rfl) Z.D_all_lots.g Z.D_all_lots.kp Z.D_all_lots.b .nil (pass_of (E := E) (takes_of rfl rfl rfl rfl)) (pa_cons (pe_callB call_len_seq (by rfl) Z.z_len (by decide +kernel) (pa_cons (pv 1) pa_nil)) pa_nil))) (blkOk_by (N := N_least_meeting) (sc := defScope s_least_meeting) (by decide +kernel)) (fun _ _ _ _ _ => (pg_name (i := 4) sc_least_meeting.nd rfl (Or.inl rfl))) (fun _ _ _ _ _ => pts_nil) (fun _ _ _ _ _ => (pe_callTy (call_tuple_ofK (K := K) rfl) (by rfl) Z.z_tuple (by decide +kernel) (pa_cons (by exact (pe_lc (own := [("place", 7)]) (g := gName 7) (tt := tYes) rfl sc_least_meeting.nd (pi_tupK (K := K) rfl (pv 4)) (blkOk_by (N := N_least_meeting) (sc := ({ kind := .function, names := [(".0", .local), ("places", .local), ("tuple", .globalImplicit), ("numbers", .cell)], isGenerator := false, isCoroutine := false, more := [] } : Scope)) (by decide +kernel)) (fun _ _ _ _ _ => (pg_name (i := 7) sc_least_meeting.nd rfl (Or.inl rfl))) (fun _ _ _ _ _ => pts_nil) (fun _ _ _ _ _ => (pe_ix (ix_listK (K := K) rfl) (pv 1) (pv 7) (fun _ _ => rfl))))) pa_nil))))
        (pss_one (ps_ret (pe_call (ok_least_lots Z) (hr.mono (by decide)) (by rfl) Z.D_least_lots.g Z.D_least_lots.kp Z.D_least_lots.b .nil (pass_of (E := E) (takes_of rfl rfl rfl rfl)) (pa_cons (pe_lc (own := [("lot", 5)]) (g := gName 5) rfl sc_least_meeting.nd (pi_list (pv 3)) (blkOk_by (N := N_least_meeting) (sc := defScope s_least_meeting) (by decide +kernel)) (fun _ _ _ _ _ => (pg_name (i := 5) sc_least_meeting.nd rfl (Or.inl rfl))) (fun _ _ _ _ _ => (pts_one (pt_val (pe_call (ok_meets_all Z) (hr.mono (by decide)) (by rfl) Z.D_meets_all.g Z.D_meets_all.kp Z.D_meets_all.b .nil passL (pa_cons (pe_call (ok_set_of_Ti Z) (hr.mono (by decide)) (by rfl) Z.D_set_of.g Z.D_set_of.kp Z.D_set_of.b .nil passL (pa_cons (pv 5) pa_nil)) (pa_cons (pv 2) pa_nil)))))) (fun _ _ _ _ _ => (pv 5))) pa_nil))))))), ?_⟩
  show BodyOk _ _ [.bo (Tup Int) a_lots.l, .un, .un, .un, .un, .un, .un, .un] (w_least_meeting_RTi a_lots)
  exact bo_ret (Δ := fun _ : Unit => [.un, .un, .un, .un, .un, .un, .un, .un]) (ΔL := fun e : Empty => e.elim) (st_seq (Δ1 := fun v3_s : (List Int) => [.bo (Tup Int) a_lots.l, .fx (List Int) v3_s, .un, .un, .un, .un, .un, .un]) (st_set (i := 1) (ev_fr (ef_srtCol2 (ei_list es_bo eg_name) (by decide) (fun _ => eb_yes) (fun v1_x => (ei_tup (es_tup ev_var) eg_name)) (fun _ _ => eb_yes) (fun v1_x v2_y => ev_var))))
        fun v3_s => (st_seq (Δ1 := fun v4_s : (List Int) => [.bo (Tup Int) a_lots.l, .fx (List Int) v3_s, .fx (List Int) v4_s, .un, .un, .un, .un, .un]) (st_set (i := 2) (ev_call (ea_cons ev_bo ea_nil)))
        fun v4_s => (st_seq (Δ1 := fun v7_s : (List (Tup Int)) => [.bo (Tup Int) a_lots.l, .fx (List Int) v3_s, .fx (List Int) v4_s, .fx (List (Tup Int)) v7_s, .un, .un, .un, .un]) (st_set (i := 3) (ev_fr (ef_comp (ei_list (es_list (ev_call (ea_cons (ev_ca1 cv_lenL (ev_bor ev_var)) ea_nil))) eg_name) (fun _ => eb_yes) (fun v5_x => (ev_ca1 cv_tupL (ev_bor (ev_fr (ef_comp (ei_tup (es_tup ev_var) eg_name) (fun _ => eb_yes) (fun v6_x => (ev_op ov_ixL (ev_bor ev_var) ev_var))))))))))
        fun v7_s => (st_ret (ev_call (ea_cons (ev_bor (ev_fr (ef_comp (ei_list (es_list ev_var) eg_name) (fun v9_x => (eb_val (ev_call (ea_cons (ev_call (ea_cons ev_var ea_nil)) (ea_cons (ev_bor ev_var) ea_nil))))) (fun v9_x => ev_var)))) ea_nil))))))
theorem ok_l_many (Z : Fa K mg) : FnOk P w K mg base (L2.CX P w) 9 Z.f_l_many Z.fd_l_many ["_law_bag_here"] (SpF ⟨K, Z.cls⟩ (fun t : (Cn Bag Nl) => w_l_many t.a)) := by
  refine def_ok _ Z.F_l_many sc_l_many rfl (by decide) fun cdv A outer s H E A0 Er t hr => ?_
  obtain ⟨a_bag_here, ⟨⟩⟩ := t
  refine ⟨_, (pss_cons (ps_set (i := 1) sc_l_many.nd rfl (Or.inr rfl) (pe_call (ok_l_take Z) (hr.mono (by decide)) (by rfl) Z.D_l_take.g Z.D_l_take.kp Z.D_l_take.b .nil pass0 (pa_cons (pv 0) (pa_cons pe_int pa_nil))))
        (pss_cons (ps_setLc (i := 2) (own := [("_law_number", 6)]) (g := gName 6) rfl sc_l_many.nd rfl rfl (sw_true rfl rfl rfl (by decide +kernel)) (pi_range1 (by rfl) Z.z_range (pa_cons pe_int pa_nil)) (blkOk_by (N := N_l_many) (sc := defScope s_l_many) (by decide +kernel)) (fun _ _ _ _ _ => (pg_name (i := 6) sc_l_many.nd rfl (Or.inl rfl))) (fun _ _ _ _ _ => (pts_one (pt_cmpR op_ne (pv 6) (pv 1) (nomark _)))) (fun _ _ _ _ _ => (pv 6)))
        (pss_cons (ps_par (i := 3) (j := 4) (by rfl) sc_l_many.nd rfl rfl (by decide) rfl rfl (pa_cons (pe_op op_add pe_int (pe_call (ok_l_take Z) (hr.mono (by decide)) (by rfl) Z.D_l_take.g Z.D_l_take.kp Z.D_l_take.b .nil pass0 (pa_cons (pv 0) (pa_cons pe_int pa_nil)))) (pa_cons (pe_lst pa_nil) pa_nil)) (by rfl))
        (pss_cons (ps_for (passes_of rfl) rfl (pi_range1 (by rfl) Z.z_range (pa_cons pe_int pa_nil)) (pg_name (i := 5) sc_l_many.nd rfl (Or.inl rfl)) (pss_cons (ps_expr (pe_bm PySem.F.plainAttrs_list PySem.F.slot_list_append PySem.F.type_list_append mt_append (pv 4) (pa_cons (pe_callTy call_tuple_of (by rfl) Z.z_tuple (by decide +kernel) (pa_cons (pe_callB (cr_srtDK (K := K) rfl hr.units) (by rfl) Z.z_sorted (by decide +kernel) (pa_cons (pe_lst (pa_cons (pv 1) (pa_cons (pe_ix ix_list (pv 2) (pe_op op_mod (pe_callTy call_int1 (by rfl) Z.z_int (by decide +kernel) (pa_cons (pe_op op_mulW (pv 5) (pv 3)) pa_nil)) pe_int) (fun _ _ => rfl)) pa_nil))) pa_nil)) pa_nil)) pa_nil)))
        pss_nil))
        (pss_one (ps_ret (pe_and (pe_cmpR (op_eqD hr.units) (pe_call (ok_least_meeting_RTi Z) (hr.mono (by decide)) (by rfl) Z.D_least_meeting.g Z.D_least_meeting.kp Z.D_least_meeting.b .nil (pass_of (E := E) (takes_of rfl rfl rfl rfl)) (pa_cons (pv 4) pa_nil)) (pe_tup (pa_cons (pe_tup (pa_cons (pv 1) pa_nil)) (pa_cons (pe_callTy call_tuple_of (by rfl) Z.z_tuple (by decide +kernel) (pa_cons (pv 2) pa_nil)) pa_nil))) (nomark _)) (pe_one (pe_cmpR op_eq (pe_callB call_len_seq (by rfl) Z.z_len (by decide +kernel) (pa_cons (pv 4) pa_nil)) pe_int (nomark _)))))))))), ?_⟩
  show BodyOk _ _ [.fx Bag a_bag_here, .un, .un, .un, .un, .un, .un] (w_l_many a_bag_here)
  exact bo_ret (Δ := fun _ : Unit => [.un, .un, .un, .un, .un, .un, .un]) (ΔL := fun e : Empty => e.elim) (st_seq (Δ1 := fun v1_s : Int => [.fx Bag a_bag_here, .fx Int v1_s, .un, .un, .un, .un, .un]) (st_set (i := 1) (ev_call (ea_cons ev_var (ea_cons ev_int ea_nil))))
        fun v1_s => (st_seq (Δ1 := fun v3_s : (List Int) => [.fx Bag a_bag_here, .fx Int v1_s, .fx (List Int) v3_s, .un, .un, .un, .un]) (st_set (i := 2) (ev_fr (ef_comp (ei_range1 ev_int eg_name) (fun v2_x => (eb_test (ev_op (ov_ne sc_ii) ev_var ev_var))) (fun v2_x => ev_var))))
        fun v3_s => (st_seq (Δ1 := fun v4_s : (T2 Int (List (Tup Int))) => [.fx Bag a_bag_here, .fx Int v1_s, .fx (List Int) v3_s, .fx Int v4_s.a, .mu (Tup Int) v4_s.b, .un, .un]) (st_parFM (ev_op ov_add ev_int (ev_call (ea_cons ev_var (ea_cons ev_int ea_nil)))) (ef_lst es_nil))
        fun v4_s => (st_seq (Δ1 := fun v8_s : (List (Tup Int)) => [.fx Bag a_bag_here, .fx Int v1_s, .fx (List Int) v3_s, .fx Int v4_s.a, .mu (Tup Int) v8_s, .un, .un]) (st_for (Δ := fun v6_s : (List (Tup Int)) => [.fx Bag a_bag_here, .fx Int v1_s, .fx (List Int) v3_s, .fx Int v4_s.a, .mu (Tup Int) v6_s, .un, .un]) (v4_s.b) (ei_range1 ev_int eg_name) (Le.eq (Le.eq (Le.eq (Le.eq (Le.eq (Le.eq (Le.eq Le.nil))))))) (fun _ => rfl) fun v5_x v6_s => (st_seq (Δ1 := fun v7_s : (List (Tup Int)) => [.fx Bag a_bag_here, .fx Int v1_s, .fx (List Int) v3_s, .fx Int v4_s.a, .mu (Tup Int) v7_s, .fx Int v5_x, .un]) (st_map (fun a => v6_s ++ [a]) (st_app (i := 4) (ev_ca1 cv_tupL (ev_bor (ev_fr (ef_srtD (ev_bor (ev_fr (ef_lst (es_cons ev_var (es_cons (ev_op ov_ixL (ev_bor ev_var) (ev_op ov_mod (ev_ca1 cv_int (ev_op ov_mul ev_var ev_var)) ev_int)) es_nil)))))))))) fun _ => (Le.eq (Le.eq (Le.eq (Le.eq (Le.eq (Le.eq (Le.eq Le.nil))))))))
        fun v7_s => (st_nil (v7_s) (Le.eq (Le.eq (Le.eq (Le.eq (Le.eq (Le.un (Le.eq Le.nil))))))))))
        fun v8_s => (st_keep 4 (δ := [.fx Bag a_bag_here, .fx Int v1_s, .fx (List Int) v3_s, .fx Int v4_s.a, .mu (Tup Int) v8_s, .un, .un]) (st_ret (ev_and (ev_op ov_eqD (ev_call (ea_cons (ev_bor ev_var) ea_nil)) (ev_tupN (es_cons (ev_tupN (es_cons ev_var es_nil)) (es_cons (ev_ca1 cv_tupL (ev_bor ev_var)) es_nil)))) (ev_op (ov_eq sc_ii) (ev_ca1 cv_lenL (ev_bor ev_var)) ev_int))))))))
theorem ok_law_11 (Z : Fa K mg) : FnOk P w K mg base (L2.CX P w) 11 Z.f_law Z.fd_law ["_law_script"] (SpF ⟨K, Z.cls⟩ (fun t : (Cn Scr Nl) => w_law_11 t.a)) := by
  refine def_ok _ Z.F_law sc_law rfl (by decide) fun cdv A outer s H E A0 Er t hr => ?_
  obtain ⟨a_script, ⟨⟩⟩ := t
  refine ⟨_, (pss_cons (ps_set (i := 1) sc_law.nd rfl (Or.inr rfl) (pe_call (ok_l_bag Z) (hr.mono (by decide)) (by rfl) Z.D_l_bag.g Z.D_l_bag.kp Z.D_l_bag.b .nil pass0 (pa_cons (pv 0) (pa_cons pe_int pa_nil))))
        (pss_cons (ps_set (i := 2) sc_law.nd rfl (Or.inl rfl) (pe_cmpR op_eq (pe_call (ok_l_take Z) (hr.mono (by decide)) (by rfl) Z.D_l_take.g Z.D_l_take.kp Z.D_l_take.b .nil pass0 (pa_cons (pv 1) (pa_cons pe_int pa_nil))) pe_int (nomark _)))
        (pss_cons (ps_set (i := 3) sc_law.nd rfl (Or.inl rfl) (pe_call (ok_l_places_Bagi Z) (hr.mono (by decide)) (by rfl) Z.D_l_places.g Z.D_l_places.kp Z.D_l_places.b .nil (pass_of (E := E) (takes_of rfl rfl rfl rfl)) (pa_cons (pv 1) (pa_cons (pe_ifExp (pt_val (pv 2)) pe_int (pe_op op_add pe_int (pe_call (ok_l_take Z) (hr.mono (by decide)) (by rfl) Z.D_l_take.g Z.D_l_take.kp Z.D_l_take.b .nil pass0 (pa_cons (pv 1) (pa_cons pe_int pa_nil))))) pa_nil))))
        (pss_cons (ps_asg (pe_tup (pa_cons (pe_lst pa_nil) (pa_cons (pe_call (ok_l_bag Z) (hr.mono (by decide)) (by rfl) Z.D_l_bag.g Z.D_l_bag.kp Z.D_l_bag.b .nil pass0 (pa_cons (pv 0) (pa_cons pe_int pa_nil))) pa_nil))) (pg_tup rfl (pgs_cons (pg_name (i := 4) sc_law.nd rfl (Or.inl rfl)) (pgs_cons (pg_name (i := 1) sc_law.nd rfl (Or.inr rfl)) pgs_nil))))
        (pss_cons (ps_for (passes_of rfl) rfl (pi_range1 (by rfl) Z.z_range (pa_cons (pe_call (ok_l_take Z) (hr.mono (by decide)) (by rfl) Z.D_l_take.g Z.D_l_take.kp Z.D_l_take.b .nil pass0 (pa_cons (pv 1) (pa_cons (pe_ifExp (pt_val (pv 2)) pe_int pe_int) pa_nil))) pa_nil)) (pg_name (i := 5) sc_law.nd rfl (Or.inl rfl)) (pss_cons (ps_set (i := 6) sc_law.nd rfl (Or.inr rfl) (pe_op op_and (pe_call (ok_l_take Z) (hr.mono (by decide)) (by rfl) Z.D_l_take.g Z.D_l_take.kp Z.D_l_take.b .nil pass0 (pa_cons (pv 1) (pa_cons (pe_op op_shl pe_int (pe_callB call_len_seq (by rfl) Z.z_len (by decide +kernel) (pa_cons (pv 3) pa_nil))) pa_nil))) (pe_call (ok_l_of Z) (hr.mono (by decide)) (by rfl) Z.D_l_of.g Z.D_l_of.kp Z.D_l_of.b .nil (pass_of (E := E) (takes_of rfl rfl rfl rfl)) (pa_cons (pv 1) (pa_cons (pe_lst (pa_cons pe_int (pa_cons pe_int (pa_cons (pe_call (ok_l_take Z) (hr.mono (by decide)) (by rfl) Z.D_l_take.g Z.D_l_take.kp Z.D_l_take.b .nil pass0 (pa_cons (pv 1) (pa_cons (pe_op op_shl pe_int (pe_callB call_len_seq (by rfl) Z.z_len (by decide +kernel) (pa_cons (pv 3) pa_nil))) pa_nil))) pa_nil)))) pa_nil)))))
        (pss_cons (ps_if (PW.pt (pw_and (pt_cmpR op_eq (pv 6) pe_int (nomark _)) (pw_and1 (pt_cmpR op_gt (pe_call (ok_l_take Z) (hr.mono (by decide)) (by rfl) Z.D_l_take.g Z.D_l_take.kp Z.D_l_take.b .nil pass0 (pa_cons (pv 1) (pa_cons pe_int pa_nil))) pe_int (nomark _))))) (pss_cons (ps_set (i := 6) sc_law.nd rfl (Or.inr rfl) (pe_op op_shl pe_int (pe_call (ok_l_take Z) (hr.mono (by decide)) (by rfl) Z.D_l_take.g Z.D_l_take.kp Z.D_l_take.b .nil pass0 (pa_cons (pv 1) (pa_cons (pe_callB call_len_seq (by rfl) Z.z_len (by decide +kernel) (pa_cons (pv 3) pa_nil)) pa_nil)))))
        pss_nil) pss_nil)
        (pss_cons (ps_if (PW.pt (pw_and (pt_cmpR (op_neD hr.units) (pv 4) (pe_lst pa_nil) (nomark _)) (pw_and1 (pt_cmpR op_eq (pe_call (ok_l_take Z) (hr.mono (by decide)) (by rfl) Z.D_l_take.g Z.D_l_take.kp Z.D_l_take.b .nil pass0 (pa_cons (pv 1) (pa_cons pe_int pa_nil))) pe_int (nomark _))))) (pss_cons (ps_expr (pe_bm PySem.F.plainAttrs_list PySem.F.slot_list_append PySem.F.type_list_append mt_append (pv 4) (pa_cons (pe_call (ok_l_of_BagRTi Z) (hr.mono (by decide)) (by rfl) Z.D_l_of.g Z.D_l_of.kp Z.D_l_of.b .nil (pass_of (E := E) (takes_of rfl rfl rfl rfl)) (pa_cons (pv 1) (pa_cons (pv 4) pa_nil))) pa_nil)))
        pss_nil) (pss_cons (ps_expr (pe_bm PySem.F.plainAttrs_list PySem.F.slot_list_append PySem.F.type_list_append mt_append (pv 4) (pa_cons (pe_callTy call_tuple_of (by rfl) Z.z_tuple (by decide +kernel) (pa_cons (pe_lc (own := [("_law_at", 14), ("_law_number", 13)]) (g := gTup K 2 (gCons (gName 14) (gCons (gName 13) gNil))) rfl sc_law.nd (pi_enum (by rfl) Z.z_enumerate (pa_cons (pv 3) pa_nil)) (blkOk_by (N := N_law) (sc := defScope s_law) (by decide +kernel)) (fun _ _ _ _ _ => (pg_tup rfl (pgs_cons (pg_name (i := 14) sc_law.nd rfl (Or.inl rfl)) (pgs_cons (pg_name (i := 13) sc_law.nd rfl (Or.inl rfl)) pgs_nil)))) (fun _ _ _ _ _ => (pts_one (pt_cmpR op_eq (pe_op op_and (pe_op op_shr (pv 6) (pv 14)) pe_int) pe_int (nomark _)))) (fun _ _ _ _ _ => (pv 13))) pa_nil)) pa_nil)))
        pss_nil))
        pss_nil))))
        (pss_cons (ps_setLc (i := 8) (own := [("_law_lot_here", 7)]) (g := gName 7) (tt := tYes) rfl sc_law.nd rfl rfl (sw_true rfl rfl rfl (by decide +kernel)) (pi_list (pv 4)) (blkOk_by (N := N_law) (sc := defScope s_law) (by decide +kernel)) (fun _ _ _ _ _ => (pg_name (i := 7) sc_law.nd rfl (Or.inl rfl))) (fun _ _ _ _ _ => pts_nil) (fun _ _ _ _ _ => (pe_ifExp (pt_cmpR op_eq (pe_call (ok_l_take Z) (hr.mono (by decide)) (by rfl) Z.D_l_take.g Z.D_l_take.kp Z.D_l_take.b .nil pass0 (pa_cons (pv 1) (pa_cons pe_int pa_nil))) pe_int (nomark _)) (pe_callTy (call_list_ofK (K := K) rfl) (by rfl) Z.z_list (by decide +kernel) (pa_cons (pv 7) pa_nil)) (pv 7))))
        (pss_cons (ps_setLc (i := 9) (own := [("_law_lot_here", 7)]) (g := gName 7) (tt := tYes) rfl sc_law.nd rfl rfl (sw_true rfl rfl rfl (by decide +kernel)) (pi_list (pv 8)) (blkOk_by (N := N_law) (sc := defScope s_law) (by decide +kernel)) (fun _ _ _ _ _ => (pg_name (i := 7) sc_law.nd rfl (Or.inl rfl))) (fun _ _ _ _ _ => pts_nil) (fun _ _ _ _ _ => (pe_callTy (call_list_ofK (K := K) rfl) (by rfl) Z.z_list (by decide +kernel) (pa_cons (pv 7) pa_nil))))
        (pss_cons (ps_set (i := 10) sc_law.nd rfl (Or.inl rfl) (pe_ifExp (pt_cmpR op_eq (pe_call (ok_l_take Z) (hr.mono (by decide)) (by rfl) Z.D_l_take.g Z.D_l_take.kp Z.D_l_take.b .nil pass0 (pa_cons (pv 1) (pa_cons pe_int pa_nil))) pe_int (nomark _)) (pv 8) (pe_callTy call_tuple_of (by rfl) Z.z_tuple (by decide +kernel) (pa_cons (pv 8) pa_nil))))
        (pss_cons (ps_set (i := 11) sc_law.nd rfl (Or.inl rfl) (pe_call (ok_least_meeting Z) (hr.mono (by decide)) (by rfl) Z.D_least_meeting.g Z.D_least_meeting.kp Z.D_least_meeting.b .nil (pass_of (E := E) (takes_of rfl rfl rfl rfl)) (pa_cons (pv 10) pa_nil)))
        (pss_cons (ps_setLc (i := 12) (own := [("_law_lot_here", 7)]) (g := gName 7) (tt := tYes) rfl sc_law.nd rfl rfl (sw_true rfl rfl rfl (by decide +kernel)) (pi_list (pv 4)) (blkOk_by (N := N_law) (sc := defScope s_law) (by decide +kernel)) (fun _ _ _ _ _ => (pg_name (i := 7) sc_law.nd rfl (Or.inl rfl))) (fun _ _ _ _ _ => pts_nil) (fun _ _ _ _ _ => (pe_call (ok_l_set Z) (hr.mono (by decide)) (by rfl) Z.D_l_set.g Z.D_l_set.kp Z.D_l_set.b .nil passL (pa_cons (pv 7) pa_nil))))
        (pss_cons (ps_if (PW.pt (pw_or (pt_not (pt_val (pe_callB call_isi (by rfl) Z.z_isinstance (by decide +kernel) (pa_cons (pv 11) (pa_cons (pe_bltn (v := .ty "tuple") (by rfl) Z.z_tuple (by decide +kernel) rfl) pa_nil))))) (pw_or1 (pt_not (pt_val (pe_callB (cr_all rfl) (by rfl) Z.z_all (by decide +kernel) (pa_cons (pe_lc (own := [("_law_lot_here", 7)]) (g := gName 7) (tt := tYes) rfl sc_law.nd (pi_tup (pv 11)) (blkOk_by (N := N_law) (sc := defScope s_law) (by decide +kernel)) (fun _ _ _ _ _ => (pg_name (i := 7) sc_law.nd rfl (Or.inl rfl))) (fun _ _ _ _ _ => pts_nil) (fun _ _ _ _ _ => (pe_callB (call_isiKn (K := K) rfl) (by rfl) Z.z_isinstance (by decide +kernel) (pa_cons (pv 7) (pa_cons (pe_bltn (v := .ty "tuple") (by rfl) Z.z_tuple (by decide +kernel) rfl) pa_nil))))) pa_nil))))))) (pss_one (ps_ret pe_bl)) pss_nil)
        (pss_cons (ps_for (passes_of rfl) rfl (pi_tup (pv 11)) (pg_name (i := 7) sc_law.nd rfl (Or.inl rfl)) (pss_cons (ps_if (pt_not (pt_val (pe_callB (cr_all rfl) (by rfl) Z.z_all (by decide +kernel) (pa_cons (pe_lc (own := [("_law_number", 13)]) (g := gName 13) (tt := tYes) rfl sc_law.nd (pi_tup (pv 7)) (blkOk_by (N := N_law) (sc := defScope s_law) (by decide +kernel)) (fun _ _ _ _ _ => (pg_name (i := 13) sc_law.nd rfl (Or.inl rfl))) (fun _ _ _ _ _ => pts_nil) (fun _ _ _ _ _ => (pe_call (ok_l_is_number Z) (hr.mono (by decide)) (by rfl) Z.D_l_is_number.g Z.D_l_is_number.kp Z.D_l_is_number.b .nil passL (pa_cons (pv 13) pa_nil)))) pa_nil)))) (pss_one (ps_ret pe_bl)) pss_nil)
        pss_nil))
        (pss_cons (ps_if (pt_cmpR (op_neD hr.units) (pe_callTy call_list_of (by rfl) Z.z_list (by decide +kernel) (pa_cons (pv 11) pa_nil)) (pe_call (ok_l_sorted Z) (hr.mono (by decide)) (by rfl) Z.D_l_sorted.g Z.D_l_sorted.kp Z.D_l_sorted.b .nil (pass_of (E := E) (takes_of rfl rfl rfl rfl)) (pa_cons (pe_call (ok_l_meeting Z) (hr.mono (by decide)) (by rfl) Z.D_l_meeting.g Z.D_l_meeting.kp Z.D_l_meeting.b .nil (pass_of (E := E) (takes_of rfl rfl rfl rfl)) (pa_cons (pv 12) (pa_cons (pv 3) pa_nil))) pa_nil)) (nomark _)) (pss_one (ps_ret pe_bl)) pss_nil)
        (pss_cons (ps_if (PW.pt (pw_or (pt_cmpR (op_neD hr.units) (pe_lc (own := [("_law_lot_here", 7)]) (g := gName 7) (tt := tYes) rfl sc_law.nd (pi_list (pv 8)) (blkOk_by (N := N_law) (sc := defScope s_law) (by decide +kernel)) (fun _ _ _ _ _ => (pg_name (i := 7) sc_law.nd rfl (Or.inl rfl))) (fun _ _ _ _ _ => pts_nil) (fun _ _ _ _ _ => (pe_callTy (call_list_ofK (K := K) rfl) (by rfl) Z.z_list (by decide +kernel) (pa_cons (pv 7) pa_nil)))) (pv 9) (nomark _)) (pw_or1 (pt_cmpR op_ne (pe_callB call_len_seq (by rfl) Z.z_len (by decide +kernel) (pa_cons (pv 10) pa_nil)) (pe_callB call_len_seq (by rfl) Z.z_len (by decide +kernel) (pa_cons (pv 4) pa_nil)) (nomark _))))) (pss_one (ps_ret pe_bl)) pss_nil)
        (pss_cons (ps_if (pt_cmpR (op_neD hr.units) (pe_callTy call_list_of (by rfl) Z.z_list (by decide +kernel) (pa_cons (pe_call (ok_least_meeting_TTi Z) (hr.mono (by decide)) (by rfl) Z.D_least_meeting.g Z.D_least_meeting.kp Z.D_least_meeting.b .nil (pass_of (E := E) (takes_of rfl rfl rfl rfl)) (pa_cons (pv 11) pa_nil)) pa_nil)) (pe_call (ok_l_sorted Z) (hr.mono (by decide)) (by rfl) Z.D_l_sorted.g Z.D_l_sorted.kp Z.D_l_sorted.b .nil (pass_of (E := E) (takes_of rfl rfl rfl rfl)) (pa_cons (pe_call (ok_l_barest Z) (hr.mono (by decide)) (by rfl) Z.D_l_barest.g Z.D_l_barest.kp Z.D_l_barest.b .nil (pass_of (E := E) (takes_of rfl rfl rfl rfl)) (pa_cons (pv 12) pa_nil)) pa_nil)) (nomark _)) (pss_one (ps_ret pe_bl)) pss_nil)
        (pss_one (ps_ret (pe_or (pe_cmpR op_gt (pe_call (ok_l_take Z) (hr.mono (by decide)) (by rfl) Z.D_l_take.g Z.D_l_take.kp Z.D_l_take.b .nil pass0 (pa_cons (pv 1) (pa_cons pe_int pa_nil))) pe_int (nomark _)) (pe_one (pe_call (ok_l_many Z) (hr.mono (by decide)) (by rfl) Z.D_l_many.g Z.D_l_many.kp Z.D_l_many.b .nil (pass_of (E := E) (takes_of rfl rfl rfl rfl)) (pa_cons (pv 1) pa_nil))))))))))))))))))))), ?_⟩
  show BodyOk _ _ [.fx Scr a_script, .un, .un, .un, .un, .un, .un, .un, .un, .un, .un, .un, .un, .un, .un] (w_law_11 a_script)
  exact bo_ret (Δ := fun _ : Unit => [.un, .un, .un, .un, .un, .un, .un, .un, .un, .un, .un, .un, .un, .un, .un]) (ΔL := fun e : Empty => e.elim) (st_seq (Δ1 := fun v1_s : Bag => [.fx Scr a_script, .fx Bag v1_s, .un, .un, .un, .un, .un, .un, .un, .un, .un, .un, .un, .un, .un]) (st_set (i := 1) (ev_call (ea_cons ev_var (ea_cons ev_int ea_nil))))
        fun v1_s => (st_seq (Δ1 := fun v2_s : Bool => [.fx Scr a_script, .fx Bag v1_s, .fx Bool v2_s, .un, .un, .un, .un, .un, .un, .un, .un, .un, .un, .un, .un]) (st_set (i := 2) (ev_op (ov_eq sc_ii) (ev_call (ea_cons ev_var (ea_cons ev_int ea_nil))) ev_int))
        fun v2_s => (st_seq (Δ1 := fun v3_s : (List Int) => [.fx Scr a_script, .fx Bag v1_s, .fx Bool v2_s, .fx (List Int) v3_s, .un, .un, .un, .un, .un, .un, .un, .un, .un, .un, .un]) (st_set (i := 3) (ev_call (ea_cons ev_var (ea_cons (ev_if (eb_val ev_var) ev_int (ev_op ov_add ev_int (ev_call (ea_cons ev_var (ea_cons ev_int ea_nil))))) ea_nil))))
        fun v3_s => (st_seq (Δ1 := fun v4_s : (T2 (List (Tup Int)) Bag) => [.fx Scr a_script, .fx Bag v4_s.b, .fx Bool v2_s, .fx (List Int) v3_s, .mu (Tup Int) v4_s.a, .un, .un, .un, .un, .un, .un, .un, .un, .un, .un]) (st_asgM (i := 4) (j := 1) (ef_lst es_nil) (ev_call (ea_cons ev_var (ea_cons ev_int ea_nil))))
        fun v4_s => (st_seq (Δ1 := fun v14_s : (List (Tup Int)) => [.fx Scr a_script, .fx Bag v4_s.b, .fx Bool v2_s, .fx (List Int) v3_s, .mu (Tup Int) v14_s, .un, .un, .un, .un, .un, .un, .un, .un, .un, .un]) (st_for (Δ := fun v6_s : (List (Tup Int)) => [.fx Scr a_script, .fx Bag v4_s.b, .fx Bool v2_s, .fx (List Int) v3_s, .mu (Tup Int) v6_s, .un, .un, .un, .un, .un, .un, .un, .un, .un, .un]) (v4_s.a) (ei_range1 (ev_call (ea_cons ev_var (ea_cons (ev_if (eb_val ev_var) ev_int ev_int) ea_nil))) eg_name) (Le.eq (Le.eq (Le.eq (Le.eq (Le.eq (Le.eq (Le.eq (Le.eq (Le.eq (Le.eq (Le.eq (Le.eq (Le.eq (Le.eq (Le.eq Le.nil))))))))))))))) (fun _ => rfl) fun v5_x v6_s => (st_seq (Δ1 := fun v7_s : Int => [.fx Scr a_script, .fx Bag v4_s.b, .fx Bool v2_s, .fx (List Int) v3_s, .mu (Tup Int) v6_s, .fx Int v5_x, .fx Int v7_s, .un, .un, .un, .un, .un, .un, .un, .un]) (st_set (i := 6) (ev_op ov_and (ev_call (ea_cons ev_var (ea_cons (ev_op ov_shl ev_int (ev_ca1 cv_lenL (ev_bor ev_var))) ea_nil))) (ev_call (ea_cons ev_var (ea_cons (ev_bor (ev_fr (ef_lst (es_cons ev_int (es_cons ev_int (es_cons (ev_call (ea_cons ev_var (ea_cons (ev_op ov_shl ev_int (ev_ca1 cv_lenL (ev_bor ev_var))) ea_nil))) es_nil)))))) ea_nil)))))
        fun v7_s => (st_seq (Δ1 := fun v9_s : Int => [.fx Scr a_script, .fx Bag v4_s.b, .fx Bool v2_s, .fx (List Int) v3_s, .mu (Tup Int) v6_s, .fx Int v5_x, .fx Int v9_s, .un, .un, .un, .un, .un, .un, .un, .un]) (st_if (eb_and (eb_test (ev_op (ov_eq sc_ii) ev_var ev_int)) (eb_test (ev_op ov_gt (ev_call (ea_cons ev_var (ea_cons ev_int ea_nil))) ev_int))) (st_seq (Δ1 := fun v8_s : Int => [.fx Scr a_script, .fx Bag v4_s.b, .fx Bool v2_s, .fx (List Int) v3_s, .mu (Tup Int) v6_s, .fx Int v5_x, .fx Int v8_s, .un, .un, .un, .un, .un, .un, .un, .un]) (st_set (i := 6) (ev_op ov_shl ev_int (ev_call (ea_cons ev_var (ea_cons (ev_ca1 cv_lenL (ev_bor ev_var)) ea_nil)))))
        fun v8_s => (st_nil (v8_s) (Le.eq (Le.eq (Le.eq (Le.eq (Le.eq (Le.eq (Le.eq (Le.eq (Le.eq (Le.eq (Le.eq (Le.eq (Le.eq (Le.eq (Le.eq Le.nil))))))))))))))))) (st_nil (v7_s) (Le.eq (Le.eq (Le.eq (Le.eq (Le.eq (Le.eq (Le.eq (Le.eq (Le.eq (Le.eq (Le.eq (Le.eq (Le.eq (Le.eq (Le.eq Le.nil)))))))))))))))))
        fun v9_s => (st_seq (Δ1 := fun v13_s : (List (Tup Int)) => [.fx Scr a_script, .fx Bag v4_s.b, .fx Bool v2_s, .fx (List Int) v3_s, .mu (Tup Int) v13_s, .fx Int v5_x, .fx Int v9_s, .un, .un, .un, .un, .un, .un, .un, .un]) (st_if (eb_and (eb_test (ev_op ov_neD ev_mu (ev_bor (ev_fr (ef_lst es_nil))))) (eb_test (ev_op (ov_eq sc_ii) (ev_call (ea_cons ev_var (ea_cons ev_int ea_nil))) ev_int))) (st_seq (Δ1 := fun v10_s : (List (Tup Int)) => [.fx Scr a_script, .fx Bag v4_s.b, .fx Bool v2_s, .fx (List Int) v3_s, .mu (Tup Int) v10_s, .fx Int v5_x, .fx Int v9_s, .un, .un, .un, .un, .un, .un, .un, .un]) (st_map (fun a => v6_s ++ [a]) (st_app (i := 4) (ev_call (ea_cons ev_var (ea_cons ev_mu ea_nil)))) fun _ => (Le.eq (Le.eq (Le.eq (Le.eq (Le.eq (Le.eq (Le.eq (Le.eq (Le.eq (Le.eq (Le.eq (Le.eq (Le.eq (Le.eq (Le.eq Le.nil))))))))))))))))
        fun v10_s => (st_nil (v10_s) (Le.eq (Le.eq (Le.eq (Le.eq (Le.eq (Le.eq (Le.eq (Le.eq (Le.eq (Le.eq (Le.eq (Le.eq (Le.eq (Le.eq (Le.eq Le.nil))))))))))))))))) (st_seq (Δ1 := fun v12_s : (List (Tup Int)) => [.fx Scr a_script, .fx Bag v4_s.b, .fx Bool v2_s, .fx (List Int) v3_s, .mu (Tup Int) v12_s, .fx Int v5_x, .fx Int v9_s, .un, .un, .un, .un, .un, .un, .un, .un]) (st_map (fun a => v6_s ++ [a]) (st_app (i := 4) (ev_ca1 cv_tupL (ev_bor (ev_fr (ef_comp (ei_enum (es_list ev_var) (eg_2 eg_name eg_name)) (fun v11_x => (eb_test (ev_op (ov_eq sc_ii) (ev_op ov_and (ev_op ov_shr ev_var ev_var) ev_int) ev_int))) (fun v11_x => ev_var)))))) fun _ => (Le.eq (Le.eq (Le.eq (Le.eq (Le.eq (Le.eq (Le.eq (Le.eq (Le.eq (Le.eq (Le.eq (Le.eq (Le.eq (Le.eq (Le.eq Le.nil))))))))))))))))
        fun v12_s => (st_nil (v12_s) (Le.eq (Le.eq (Le.eq (Le.eq (Le.eq (Le.eq (Le.eq (Le.eq (Le.eq (Le.eq (Le.eq (Le.eq (Le.eq (Le.eq (Le.eq Le.nil))))))))))))))))))
        fun v13_s => (st_nil (v13_s) (Le.eq (Le.eq (Le.eq (Le.eq (Le.eq (Le.un (Le.un (Le.eq (Le.eq (Le.eq (Le.eq (Le.eq (Le.eq (Le.eq (Le.eq Le.nil))))))))))))))))))))
        fun v14_s => (st_keep 4 (δ := [.fx Scr a_script, .fx Bag v4_s.b, .fx Bool v2_s, .fx (List Int) v3_s, .mu (Tup Int) v14_s, .un, .un, .un, .un, .un, .un, .un, .un, .un, .un]) (st_seq (Δ1 := fun v16_s : (List (Sm2 (List Int) (Tup Int))) => [.fx Scr a_script, .fx Bag v4_s.b, .fx Bool v2_s, .fx (List Int) v3_s, .fx (List (Tup Int)) v14_s, .un, .un, .un, .fx (List (Sm2 (List Int) (Tup Int))) v16_s, .un, .un, .un, .un, .un, .un]) (st_set (i := 8) (ev_fr (ef_comp (ei_list (es_list ev_var) eg_name) (fun _ => eb_yes) (fun v15_x => (ev_if (eb_test (ev_op (ov_eq sc_ii) (ev_call (ea_cons ev_var (ea_cons ev_int ea_nil))) ev_int)) (ev_s2a (ev_fr (ef_listT ev_var))) (ev_s2b ev_var))))))
        fun v16_s => (st_seq (Δ1 := fun v18_s : (List (List Int)) => [.fx Scr a_script, .fx Bag v4_s.b, .fx Bool v2_s, .fx (List Int) v3_s, .fx (List (Tup Int)) v14_s, .un, .un, .un, .fx (List (Sm2 (List Int) (Tup Int))) v16_s, .fx (List (List Int)) v18_s, .un, .un, .un, .un, .un]) (st_set (i := 9) (ev_fr (ef_comp (ei_list (es_list ev_var) eg_name) (fun _ => eb_yes) (fun v17_x => (ev_fr (ef_listE ev_var))))))
        fun v18_s => (st_seq (Δ1 := fun v19_s : (Sm2 (List (Sm2 (List Int) (Tup Int))) (Tup (Sm2 (List Int) (Tup Int)))) => [.fx Scr a_script, .fx Bag v4_s.b, .fx Bool v2_s, .fx (List Int) v3_s, .fx (List (Tup Int)) v14_s, .un, .un, .un, .fx (List (Sm2 (List Int) (Tup Int))) v16_s, .fx (List (List Int)) v18_s, .fx (Sm2 (List (Sm2 (List Int) (Tup Int))) (Tup (Sm2 (List Int) (Tup Int)))) v19_s, .un, .un, .un, .un]) (st_set (i := 10) (ev_if (eb_test (ev_op (ov_eq sc_ii) (ev_call (ea_cons ev_var (ea_cons ev_int ea_nil))) ev_int)) (ev_s2a ev_var) (ev_s2b (ev_ca1 cv_tupL (ev_bor ev_var)))))
        fun v19_s => (st_seq (Δ1 := fun v20_s : (Tup (Tup Int)) => [.fx Scr a_script, .fx Bag v4_s.b, .fx Bool v2_s, .fx (List Int) v3_s, .fx (List (Tup Int)) v14_s, .un, .un, .un, .fx (List (Sm2 (List Int) (Tup Int))) v16_s, .fx (List (List Int)) v18_s, .fx (Sm2 (List (Sm2 (List Int) (Tup Int))) (Tup (Sm2 (List Int) (Tup Int)))) v19_s, .fx (Tup (Tup Int)) v20_s, .un, .un, .un]) (st_set (i := 11) (ev_call (ea_cons ev_var ea_nil)))
        fun v20_s => (st_seq (Δ1 := fun v22_s : (List Int) => [.fx Scr a_script, .fx Bag v4_s.b, .fx Bool v2_s, .fx (List Int) v3_s, .fx (List (Tup Int)) v14_s, .un, .un, .un, .fx (List (Sm2 (List Int) (Tup Int))) v16_s, .fx (List (List Int)) v18_s, .fx (Sm2 (List (Sm2 (List Int) (Tup Int))) (Tup (Sm2 (List Int) (Tup Int)))) v19_s, .fx (Tup (Tup Int)) v20_s, .fx (List Int) v22_s, .un, .un]) (st_set (i := 12) (ev_fr (ef_comp (ei_list (es_list ev_var) eg_name) (fun _ => eb_yes) (fun v21_x => (ev_call (ea_cons ev_var ea_nil))))))
        fun v22_s => (st_seq (Δ1 := fun v24_s : Unit => [.fx Scr a_script, .fx Bag v4_s.b, .fx Bool v2_s, .fx (List Int) v3_s, .fx (List (Tup Int)) v14_s, .un, .un, .un, .fx (List (Sm2 (List Int) (Tup Int))) v16_s, .fx (List (List Int)) v18_s, .fx (Sm2 (List (Sm2 (List Int) (Tup Int))) (Tup (Sm2 (List Int) (Tup Int)))) v19_s, .fx (Tup (Tup Int)) v20_s, .fx (List Int) v22_s, .un, .un]) (st_if (eb_or (eb_not (eb_val (ev_isi kd_tup (fun _ => true) (.ty "tuple") (fun _ => (kit_ty (by decide +kernel))) ev_var))) (eb_not (eb_val (by exact (ev_ca1 cv_all (ev_bor (ev_fr (ef_comp (ei_tup (es_tup ev_var) eg_name) (fun _ => eb_yes) (fun v23_x => (ev_isi kd_tup (fun _ => true) (.ty "tuple") (fun _ => (kit_ty (by decide +kernel))) ev_var)))))))))) (st_ret ev_bl) (st_nil () (Le.eq (Le.eq (Le.eq (Le.eq (Le.eq (Le.eq (Le.eq (Le.eq (Le.eq (Le.eq (Le.eq (Le.eq (Le.eq (Le.eq (Le.eq Le.nil)))))))))))))))))
        fun v24_s => (st_seq (Δ1 := fun v29_s : Unit => [.fx Scr a_script, .fx Bag v4_s.b, .fx Bool v2_s, .fx (List Int) v3_s, .fx (List (Tup Int)) v14_s, .un, .un, .un, .fx (List (Sm2 (List Int) (Tup Int))) v16_s, .fx (List (List Int)) v18_s, .fx (Sm2 (List (Sm2 (List Int) (Tup Int))) (Tup (Sm2 (List Int) (Tup Int)))) v19_s, .fx (Tup (Tup Int)) v20_s, .fx (List Int) v22_s, .un, .un]) (st_for (Δ := fun v26_s : Unit => [.fx Scr a_script, .fx Bag v4_s.b, .fx Bool v2_s, .fx (List Int) v3_s, .fx (List (Tup Int)) v14_s, .un, .un, .un, .fx (List (Sm2 (List Int) (Tup Int))) v16_s, .fx (List (List Int)) v18_s, .fx (Sm2 (List (Sm2 (List Int) (Tup Int))) (Tup (Sm2 (List Int) (Tup Int)))) v19_s, .fx (Tup (Tup Int)) v20_s, .fx (List Int) v22_s, .un, .un]) () (ei_tup (es_tup ev_var) eg_name) (Le.eq (Le.eq (Le.eq (Le.eq (Le.eq (Le.eq (Le.eq (Le.eq (Le.eq (Le.eq (Le.eq (Le.eq (Le.eq (Le.eq (Le.eq Le.nil))))))))))))))) (fun _ => rfl) fun v25_x v26_s => (st_seq (Δ1 := fun v28_s : Unit => [.fx Scr a_script, .fx Bag v4_s.b, .fx Bool v2_s, .fx (List Int) v3_s, .fx (List (Tup Int)) v14_s, .un, .un, .fx (Tup Int) v25_x, .fx (List (Sm2 (List Int) (Tup Int))) v16_s, .fx (List (List Int)) v18_s, .fx (Sm2 (List (Sm2 (List Int) (Tup Int))) (Tup (Sm2 (List Int) (Tup Int)))) v19_s, .fx (Tup (Tup Int)) v20_s, .fx (List Int) v22_s, .un, .un]) (st_if (eb_not (eb_val (by exact (ev_ca1 cv_all (ev_bor (ev_fr (ef_comp (ei_tup (es_tup ev_var) eg_name) (fun _ => eb_yes) (fun v27_x => (ev_call (ea_cons ev_var ea_nil)))))))))) (st_ret ev_bl) (st_nil () (Le.eq (Le.eq (Le.eq (Le.eq (Le.eq (Le.eq (Le.eq (Le.eq (Le.eq (Le.eq (Le.eq (Le.eq (Le.eq (Le.eq (Le.eq Le.nil)))))))))))))))))
        fun v28_s => (st_nil () (Le.eq (Le.eq (Le.eq (Le.eq (Le.eq (Le.eq (Le.eq (Le.un (Le.eq (Le.eq (Le.eq (Le.eq (Le.eq (Le.eq (Le.eq Le.nil))))))))))))))))))
        fun v29_s => (st_seq (Δ1 := fun v30_s : Unit => [.fx Scr a_script, .fx Bag v4_s.b, .fx Bool v2_s, .fx (List Int) v3_s, .fx (List (Tup Int)) v14_s, .un, .un, .un, .fx (List (Sm2 (List Int) (Tup Int))) v16_s, .fx (List (List Int)) v18_s, .fx (Sm2 (List (Sm2 (List Int) (Tup Int))) (Tup (Sm2 (List Int) (Tup Int)))) v19_s, .fx (Tup (Tup Int)) v20_s, .fx (List Int) v22_s, .un, .un]) (st_if (eb_test (ev_op ov_neD (ev_bor (ev_fr (ef_listT ev_var))) (ev_bor (ev_fr (ef_call (ea_cons (ev_bor (ev_call (ea_cons (ev_bor ev_var) (ea_cons (ev_bor ev_var) ea_nil)))) ea_nil)))))) (st_ret ev_bl) (st_nil () (Le.eq (Le.eq (Le.eq (Le.eq (Le.eq (Le.eq (Le.eq (Le.eq (Le.eq (Le.eq (Le.eq (Le.eq (Le.eq (Le.eq (Le.eq Le.nil)))))))))))))))))
        fun v30_s => (st_seq (Δ1 := fun v33_s : Unit => [.fx Scr a_script, .fx Bag v4_s.b, .fx Bool v2_s, .fx (List Int) v3_s, .fx (List (Tup Int)) v14_s, .un, .un, .un, .fx (List (Sm2 (List Int) (Tup Int))) v16_s, .fx (List (List Int)) v18_s, .fx (Sm2 (List (Sm2 (List Int) (Tup Int))) (Tup (Sm2 (List Int) (Tup Int)))) v19_s, .fx (Tup (Tup Int)) v20_s, .fx (List Int) v22_s, .un, .un]) (st_if (eb_or (eb_test (ev_op ov_neD (ev_bor (ev_fr (ef_comp (ei_list (es_list ev_var) eg_name) (fun _ => eb_yes) (fun v32_x => (ev_fr (ef_listE ev_var)))))) (ev_bor ev_var))) (eb_test (ev_op (ov_ne sc_ii) (ev_ca1 cv_lenE ev_var) (ev_ca1 cv_lenL (ev_bor ev_var))))) (st_ret ev_bl) (st_nil () (Le.eq (Le.eq (Le.eq (Le.eq (Le.eq (Le.eq (Le.eq (Le.eq (Le.eq (Le.eq (Le.eq (Le.eq (Le.eq (Le.eq (Le.eq Le.nil)))))))))))))))))
        fun v33_s => (st_seq (Δ1 := fun v34_s : Unit => [.fx Scr a_script, .fx Bag v4_s.b, .fx Bool v2_s, .fx (List Int) v3_s, .fx (List (Tup Int)) v14_s, .un, .un, .un, .fx (List (Sm2 (List Int) (Tup Int))) v16_s, .fx (List (List Int)) v18_s, .fx (Sm2 (List (Sm2 (List Int) (Tup Int))) (Tup (Sm2 (List Int) (Tup Int)))) v19_s, .fx (Tup (Tup Int)) v20_s, .fx (List Int) v22_s, .un, .un]) (st_if (eb_test (ev_op ov_neD (ev_bor (ev_fr (ef_listT (ev_call (ea_cons ev_var ea_nil))))) (ev_bor (ev_fr (ef_call (ea_cons (ev_bor (ev_call (ea_cons (ev_bor ev_var) ea_nil))) ea_nil)))))) (st_ret ev_bl) (st_nil () (Le.eq (Le.eq (Le.eq (Le.eq (Le.eq (Le.eq (Le.eq (Le.eq (Le.eq (Le.eq (Le.eq (Le.eq (Le.eq (Le.eq (Le.eq Le.nil)))))))))))))))))
        fun v34_s => (st_ret (ev_or (ev_op ov_gt (ev_call (ea_cons ev_var (ea_cons ev_int ea_nil))) ev_int) (ev_call (ea_cons ev_var ea_nil))))))))))))))))))))
end
end TW
set_option Elab.async false
set_option maxRecDepth 100000
set_option maxHeartbeats 4000000
set_option linter.all false
set_option autoImplicit false
/-! the module of orders, by what it gives: days, layers, least -/
namespace TW
open Pa (rep)
open PaL (repL)
open PySem PySem.Spec PyProof.Rows L2 My
theorem e_within (a b : Int) : w_within a b = pure (pyEq (Builtin.bitAnd a (Builtin.bitNot b)) (0 : Int)) := by unfold w_within; simp only [pb, ba, sq_nx, sq_rt, sq_b, sq_i, sq_f, fR_rt, fR_b, fR_i, fR_f, fN_nx, fN_b, fN_i, fN_f, fI_nx, fI_b, fI_i, fI_f, i_b, f_b, if_true, if_false, Bool.false_eq_true, Bool.not_true, Bool.not_false, setW, retW, dropW, ifW, reduceIte]
/-- the days of a set -/
def days (n : Nat) : List Nat := (List.range 16).filter fun d => n.testBit d
theorem mem_days {n d : Nat} : d ∈ days n ↔ d < 16 ∧ n.testBit d = true := by unfold days; simp
theorem bit_test (n d : Nat) : Tr.tr (Builtin.bitAnd ((n : Int) / 2 ^ d) 1) = n.testBit d := by
  have e : ((n : Int) / 2 ^ d) = ((n >>> d : Nat) : Int) := by
    rw [Nat.shiftRight_eq_div_pow]
    simp
  rw [e, bitAnd_pp (Int.natCast_nonneg _) (by decide)]
  rw [Int.toNat_natCast, show (1 : Int).toNat = 1 from rfl, Nat.testBit, Nat.and_comm]
  cases h : (1 &&& n >>> d) with
  | zero => rfl
  | succ k => rfl
def lay (o : Order) (d : Nat) : Int := (o.layers.l[d]?).getD 0
def leastP (o : Order) (n : Nat) : Option Int := minO ((days n).map (lay o))
theorem days_lt {n k d : Nat} (hn : n < 2 ^ k) (h : d ∈ days n) : d < k := by
  have := (mem_days.mp h).2
  refine Nat.lt_of_not_le fun z => ?_
  rw [Nat.testBit_lt_two_pow (Nat.lt_of_lt_of_le hn (Nat.pow_le_pow_right (by omega) z))] at this
  cases this
/-- layers that an order may have -/
structure Lay (l : List Int) : Prop where
  n : l.length = 2 ∨ l.length = 4 ∨ l.length = 8 ∨ l.length = 16
  b : ∀ x ∈ l, 0 ≤ x ∧ x ≤ 1000000000000000000000000000000
  z : (0 : Int) ∈ l
theorem Lay.le {l : List Int} (h : Lay l) : l.length ≤ 16 := by rcases h.n with h | h | h | h <;> omega
end TW
set_option Elab.async false
set_option maxRecDepth 100000
set_option maxHeartbeats 4000000
set_option linter.all false
set_option autoImplicit false
/-! sayings of any where and then; keeping -/
namespace TW
open Pa (rep)
open PaL (repL)
open PySem PySem.Spec PyProof.Rows L2 My
/-- a saying as drawn: where, then, kind -/
structure SN where
  w : Nat
  t : Nat
  u : Bool
def SN.c (s : SN) : Nat := s.w &&& s.t
def SN.b (s : SN) : Nat := s.w ^^^ (s.w &&& s.t)
def SN.lo (s : SN) : Nat := if s.u then s.c else s.b
def SN.hi (s : SN) : Nat := if s.u then s.b else s.c
def SN.step (s : SN) : Int := if s.u then 1 else 0
/-- its contrary -/
def SN.co (s : SN) : SN := ⟨s.w, s.t, !s.u⟩
structure SN.Ok (n : Nat) (s : SN) : Prop where
  p : 0 < s.w
  w : s.w < 2 ^ n
  t : s.t < 2 ^ n
theorem SN.c_bit (s : SN) (i : Nat) : s.c.testBit i = (s.w.testBit i && s.t.testBit i) := by unfold SN.c; rw [Nat.testBit_and]
theorem SN.b_bit (s : SN) (i : Nat) : s.b.testBit i = (s.w.testBit i && !s.t.testBit i) := by
  unfold SN.b
  rw [Nat.testBit_xor, Nat.testBit_and]
  cases s.w.testBit i <;> cases s.t.testBit i <;> rfl
theorem SN.cb (s : SN) : s.c + s.b = s.w := by
  have h := nat_or_add_and s.c s.b
  have h1 : s.c ||| s.b = s.w := by
    refine Nat.eq_of_testBit_eq fun i => ?_
    rw [Nat.testBit_or, s.c_bit, s.b_bit]
    cases s.w.testBit i <;> cases s.t.testBit i <;> rfl
  have h2 : s.c &&& s.b = 0 := by
    refine Nat.eq_of_testBit_eq fun i => ?_
    rw [Nat.testBit_and, s.c_bit, s.b_bit, Nat.zero_testBit]
    cases s.w.testBit i <;> cases s.t.testBit i <;> rfl
  omega
theorem SN.c_eq (s : SN) : Builtin.bitAnd (s.w : Int) (s.t : Int) = (s.c : Int) := by
  rw [bitAnd_pp (Int.natCast_nonneg _) (Int.natCast_nonneg _), Int.toNat_natCast, Int.toNat_natCast]
  rfl
theorem SN.b_eq (s : SN) : Builtin.bitAnd (s.w : Int) (Builtin.bitNot (s.t : Int)) = (s.b : Int) := by
  rw [bitAnd_not, s.c_eq]
  have := s.cb
  omega
theorem SN.Ok.c {n : Nat} {s : SN} (h : s.Ok n) : s.c < 2 ^ n := by have := s.cb; have := h.w; omega
theorem SN.Ok.b {n : Nat} {s : SN} (h : s.Ok n) : s.b < 2 ^ n := by have := s.cb; have := h.w; omega
theorem SN.Ok.lo {n : Nat} {s : SN} (h : s.Ok n) : s.lo < 2 ^ n := by unfold SN.lo; split; exact h.c; exact h.b
theorem SN.Ok.hi {n : Nat} {s : SN} (h : s.Ok n) : s.hi < 2 ^ n := by unfold SN.hi; split; exact h.b; exact h.c
theorem SN.Ok.co {n : Nat} {s : SN} (h : s.Ok n) : s.co.Ok n := ⟨h.p, h.w, h.t⟩
theorem SN.Ok.up {n m : Nat} {s : SN} (h : s.Ok n) (k : n ≤ m) : s.Ok m := by
  have := Nat.pow_le_pow_right (show 0 < 2 by omega) k
  exact ⟨h.p, Nat.lt_of_lt_of_le h.w this, Nat.lt_of_lt_of_le h.t this⟩
/-- whether an order keeps a saying -/
def SN.kept (o : Order) (s : SN) : Bool :=
  match leastP o s.hi, leastP o s.lo with
  | none, _ => true
  | some _, none => false
  | some x, some y => decide (y + s.step ≤ x)
/-! ### by days -/
theorem minO_some {xs : List Int} (h : xs ≠ []) : minO xs = some (minL xs) := if_neg h
theorem least_none {o : Order} {n : Nat} : leastP o n = none ↔ days n = [] := by
  unfold leastP minO
  by_cases h : days n = []
  · simp [h]
  · simp [h]
theorem least_some {o : Order} {n : Nat} {x : Int} : leastP o n = some x ↔ (∃ d ∈ days n, lay o d = x) ∧ ∀ d ∈ days n, x ≤ lay o d := by
  unfold leastP
  by_cases h : days n = []
  · rw [h]
    exact ⟨fun z => (nomatch z), fun ⟨⟨d, z, _⟩, _⟩ => (nomatch z)⟩
  · have hm : (days n).map (lay o) ≠ [] := by simpa using h
    rw [minO_some hm]
    constructor
    · intro z
      have z : minL ((days n).map (lay o)) = x := Option.some.inj z
      obtain ⟨d, hd, e⟩ := List.mem_map.mp (minL_mem hm)
      exact ⟨⟨d, hd, e.trans z⟩, fun d hd => z ▸ minL_le (List.mem_map.mpr ⟨d, hd, rfl⟩)⟩
    · rintro ⟨⟨d, hd, e⟩, k⟩
      obtain ⟨d2, hd2, e2⟩ := List.mem_map.mp (minL_mem hm)
      have h1 : minL ((days n).map (lay o)) ≤ x := e ▸ minL_le (List.mem_map.mpr ⟨d, hd, rfl⟩)
      have h2 := k d2 hd2
      congr 1
      omega
theorem kept_iff {o : Order} {s : SN} : s.kept o = true ↔ ∀ h ∈ days s.hi, ∃ l ∈ days s.lo, lay o l + s.step ≤ lay o h := by
  unfold SN.kept
  cases h6 : leastP o s.hi with
  | none =>
    have := least_none.mp h6
    rw [this]
    exact ⟨fun _ => nofun, fun _ => rfl⟩
  | some x =>
    obtain ⟨⟨d, hd, hx⟩, hm⟩ := least_some.mp h6
    cases h7 : leastP o s.lo with
    | none =>
      have := least_none.mp h7
      rw [this]
      exact ⟨nofun, fun z => by obtain ⟨l, hl, _⟩ := z d hd; cases hl⟩
    | some y =>
      obtain ⟨⟨e, he, hy⟩, hn⟩ := least_some.mp h7
      show decide (y + s.step ≤ x) = true ↔ _
      rw [decide_eq_true_iff]
      constructor
      · intro z h hh
        have := hm h hh
        exact ⟨e, he, by omega⟩
      · intro z
        obtain ⟨l, hl, k⟩ := z d hd
        have := hn l hl
        omega
end TW
set_option Elab.async false
set_option maxRecDepth 100000
set_option maxHeartbeats 4000000
set_option linter.all false
set_option autoImplicit false
/-! books of sayings; the law's own keeping -/
namespace TW
open Pa (rep)
open PaL (repL)
open PySem PySem.Spec PyProof.Rows L2 My
def OkL (n : Nat) (ss : List SN) : Prop := ∀ s ∈ ss, s.Ok n
/-! ### the law's own -/
theorem bit_test1 (n d : Nat) : pyEq (Builtin.bitAnd ((n : Int) / 2 ^ d) 1) (1 : Int) = n.testBit d := by
  have h := bit_test n d
  have e : ((n : Int) / 2 ^ d) = ((n >>> d : Nat) : Int) := by
    rw [Nat.shiftRight_eq_div_pow]
    simp
  rw [pyEq_ii, ← h, e, bitAnd_pp (Int.natCast_nonneg _) (by decide), Int.toNat_natCast, show (1 : Int).toNat = 1 from rfl, Nat.and_one_is_mod]
  rcases Nat.mod_two_eq_zero_or_one (n >>> d) with h | h <;> rw [h] <;> rfl
end TW
set_option Elab.async false
set_option maxRecDepth 100000
set_option maxHeartbeats 1000000
set_option linter.all false
set_option autoImplicit false
/-! sets of days, normal days; marks; books -/
namespace TW
open Pa (rep)
open PaL (repL)
open PySem PySem.Spec PyProof.Rows L2 My
def setN (ds : List Nat) : Nat := ds.foldl (fun m d => m ||| 2 ^ d) 0
theorem setN_bit0 (i : Nat) : ∀ (ds : List Nat) (m : Nat), (ds.foldl (fun m d => m ||| 2 ^ d) m).testBit i = (m.testBit i || decide (i ∈ ds))
  | [], m => by simp
  | d :: ds, m => by
    rw [List.foldl_cons, setN_bit0 i ds, Nat.testBit_or, Nat.testBit_two_pow]
    by_cases h : d = i
    · subst h; simp
    · simp [h, Ne.symm h]
theorem setN_bit (ds : List Nat) (i : Nat) : (setN ds).testBit i = decide (i ∈ ds) := by
  unfold setN
  rw [setN_bit0, Nat.zero_testBit, Bool.false_or]
theorem or_bit (m d : Nat) : Builtin.bitOr (m : Int) (1 * 2 ^ ((d : Int)).toNat) = ((m ||| 2 ^ d : Nat) : Int) := by
  have e : (1 * 2 ^ ((d : Int)).toNat : Int) = ((2 ^ d : Nat) : Int) := by rw [Int.toNat_natCast]; simp
  rw [e, bitOr_nn (Int.natCast_nonneg _) (Int.natCast_nonneg _), Int.toNat_natCast, Int.toNat_natCast]
/-! ### marks and books -/
/-- how many days there may be -/
def Dc (n : Nat) : Prop := n = 2 ∨ n = 4 ∨ n = 8 ∨ n = 16
theorem Dc.le {n : Nat} (h : Dc n) : n ≤ 16 := by rcases h with h | h | h | h <;> omega
theorem Dc.pos {n : Nat} (h : Dc n) : 0 < n := by rcases h with h | h | h | h <;> omega
end TW
set_option Elab.async false
set_option maxRecDepth 100000
set_option maxHeartbeats 1000000
set_option linter.all false
set_option autoImplicit false
/-! what the law draws: layers, sayings -/
namespace TW
open Pa (rep)
open PaL (repL)
open PySem PySem.Spec PyProof.Rows L2 My
theorem r_of (b : Bag) (l : List Int) (h : l ≠ []) (hz : l.length ≤ 100) : Rn (w_l_of b ⟨l⟩) fun x => x ∈ l := by
  have hp : 0 < l.length := List.length_pos_iff.mpr h
  unfold w_l_of
  simp only [pb, ba, sq_nx, sq_rt, sq_b, fR_rt, fR_b, fN_nx, fN_b, setW, retW, dropW]
  refine (r_take b _ (by omega) (big8000 (by omega))).bind fun r ⟨h0, h1⟩ => ?_
  obtain ⟨j, rfl⟩ := Int.eq_ofNat_of_zero_le h0
  have hj : j < l.length := by omega
  exact (Gv.get (atI_nat (List.getElem?_eq_getElem hj))).bindR (Rn.ret (List.getElem_mem hj))
/-! ### sayings -/
theorem shl_eq (n : Nat) : (1 : Int) * 2 ^ ((n : Int)).toNat = ((2 ^ n : Nat) : Int) := by rw [Int.toNat_natCast]; simp
end TW
set_option Elab.async false
set_option maxRecDepth 100000
set_option maxHeartbeats 1000000
set_option linter.all false
set_option autoImplicit false
/-! a saying that is kept, as drawn -/
namespace TW
open Pa (rep)
open PaL (repL)
open PySem PySem.Spec PyProof.Rows L2 My
theorem bitOr_nat (a b : Nat) : Builtin.bitOr (a : Int) (b : Int) = ((a ||| b : Nat) : Int) := by rw [bitOr_nn (Int.natCast_nonneg _) (Int.natCast_nonneg _), Int.toNat_natCast, Int.toNat_natCast]
theorem bitAnd_nat (a b : Nat) : Builtin.bitAnd (a : Int) (b : Int) = ((a &&& b : Nat) : Int) := by rw [bitAnd_pp (Int.natCast_nonneg _) (Int.natCast_nonneg _), Int.toNat_natCast, Int.toNat_natCast]
theorem bitAnd_notnat (a b : Nat) : Builtin.bitAnd (a : Int) (Builtin.bitNot (b : Int)) = (((SN.mk a b true).b : Nat) : Int) := (SN.mk a b true).b_eq
end TW
set_option Elab.async false
set_option maxRecDepth 100000
set_option maxHeartbeats 1000000
set_option linter.all false
set_option autoImplicit false
/-! the law's questions -/
namespace TW
open Pa (rep)
open PaL (repL)
open PySem PySem.Spec PyProof.Rows L2 My
theorem OkL.up {n m : Nat} {ss : List SN} (h : OkL n ss) (k : n ≤ m) : OkL m ss := fun s hs => (h s hs).up k
/-! ### what is refused -/
/-! ### a thousand sayings -/
end TW
set_option Elab.async false
set_option maxRecDepth 100000
set_option maxHeartbeats 1000000
set_option linter.all false
set_option autoImplicit false
/-! lifting: the days that stay -/
namespace TW
open Pa (rep)
open PaL (repL)
open PySem PySem.Spec PyProof.Rows L2 My
section
variable {α β γ S L : Type}
theorem Rn.forC {f : α → S → W (Res S β S)} (I : Nat → S → Prop) {xs : List α} {s : S} (h0 : I 0 s) (hs : ∀ (j : Nat) (x : α) (s : S), xs[j]? = some x → I j s → Rn (f x s) fun r => ∃ s', (r = .nx s' ∨ r = .ct s') ∧ I (j + 1) s') : Rn (forW (L := L) f xs s) fun r => ∃ s', r = .nx s' ∧ I xs.length s' := fun P E q =>
  run_for I xs 0 s h0 (fun j x s hx hi => hs j x s hx (by rwa [Nat.zero_add] at hi) _ _ fun r ⟨s', e, i'⟩ => by
    rcases e with e | e <;> subst e <;> rwa [Nat.zero_add]) fun s' hi => q _ ⟨s', rfl, by rwa [Nat.zero_add] at hi⟩
theorem Rn.while {c : S → W Bool} {b : S → W (Res S β S)} {s : S} (I : S → Prop) (μ : S → Nat) (cb : S → Bool) (hc : ∀ s, I s → Gv (c s) (cb s)) (h0 : I s) (hb : ∀ s, I s → cb s = true → Rn (b s) fun r => ∃ s', r = .nx s' ∧ I s' ∧ μ s' < μ s) :
    Rn (whileW (L := L) c b s) fun r => ∃ s', r = .nx s' ∧ I s' ∧ cb s' = false := fun P E q => by
  refine ⟨I, μ, h0, fun s hs => hc s hs _ _ ?_⟩
  cases h : cb s with
  | true =>
    rw [if_pos rfl]
    refine hb s hs h _ _ fun r ⟨s', e, i, m⟩ => ?_
    subst e
    exact ⟨i, m⟩
  | false =>
    rw [if_neg Bool.false_ne_true]
    exact q _ ⟨s, rfl, hs, h⟩
end
/-- a set within a set -/
def Sub (a b : Nat) : Prop := ∀ i, a.testBit i = true → b.testBit i = true
theorem and_ne {a b : Nat} : a &&& b ≠ 0 ↔ ∃ i, a.testBit i = true ∧ b.testBit i = true := by
  constructor
  · intro h
    by_cases z : ∃ i, a.testBit i = true ∧ b.testBit i = true
    · exact z
    · refine (h (Nat.eq_of_testBit_eq fun i => ?_)).elim
      rw [Nat.testBit_and, Nat.zero_testBit]
      cases h1 : a.testBit i <;> cases h2 : b.testBit i <;> first | rfl | exact (z ⟨i, h1, h2⟩).elim
  · rintro ⟨i, h1, h2⟩ z
    have : (a &&& b).testBit i = true := by rw [Nat.testBit_and, h1, h2]; rfl
    rw [z, Nat.zero_testBit] at this
    cases this
/-- what stays when these leave -/
def minus (a b : Nat) : Nat := (SN.mk a b true).b
theorem minus_bit (a b i : Nat) : (minus a b).testBit i = (a.testBit i && !b.testBit i) := SN.b_bit _ i
theorem minus_add (a b : Nat) : (a &&& b) + minus a b = a := SN.cb (SN.mk a b true)
/-- the saying holds of those that lie at or below a layer, if P lie below it -/
def stab (P U : Nat) (s : SN) : Prop := s.hi &&& U ≠ 0 → s.lo &&& (if s.u then P else U) ≠ 0
end TW
set_option Elab.async false
set_option maxRecDepth 100000
set_option maxHeartbeats 1000000
set_option linter.all false
set_option autoImplicit false
/-! lifting: the climb, by what it gives -/
namespace TW
open Pa (rep)
open PaL (repL)
open PySem PySem.Spec PyProof.Rows L2 My
theorem bit_lt {X n d : Nat} (hX : X < 2 ^ n) (h : X.testBit d = true) : d < n := by
  refine Nat.lt_of_not_le fun z => ?_
  rw [Nat.testBit_lt_two_pow (Nat.lt_of_lt_of_le hX (Nat.pow_le_pow_right (by omega) z))] at h
  cases h
def lk (L : List (Option Int)) (d : Nat) : Option Int := (L[d]?).getD none
/-- layers, some without end, that satisfy a saying -/
def sat (f : Nat → Option Int) (s : SN) : Prop := ∀ h, s.hi.testBit h = true → ∀ y, f h = some y → ∃ l, s.lo.testBit l = true ∧ ∃ x, f l = some x ∧ x + s.step ≤ y
/-- layers from a start up that satisfy all sayings -/
structure Val (ss : List SN) (n : Nat) (st : Nat → Int) (f : Nat → Option Int) : Prop where
  s : ∀ s ∈ ss, sat f s
  st : ∀ d, d < n → ∀ y, f d = some y → st d ≤ y
/-- the least such layers -/
structure Lst (ss : List SN) (n : Nat) (st : Nat → Int) (f : Nat → Option Int) : Prop where
  v : Val ss n st f
  le : ∀ g, Val ss n st g → ∀ d, d < n → ∀ y, g d = some y → ∃ x, f d = some x ∧ x ≤ y
theorem lk_rep (n d : Nat) : lk (List.replicate n none) d = none := by
  unfold lk
  rw [List.getElem?_replicate]
  split <;> rfl
end TW
set_option Elab.async false
set_option maxRecDepth 100000
set_option maxHeartbeats 1000000
set_option linter.all false
set_option autoImplicit false
/-! lifting: one layer -/
namespace TW
open Pa (rep)
open PaL (repL)
open PySem PySem.Spec PyProof.Rows L2 My
structure Clm (ss : List SN) (n : Nat) (st : Nat → Int) (L : List (Option Int)) (P : Nat) (ly : Option Int) : Prop where
  len : L.length = n
  lt : P < 2 ^ n
  p : ∀ d, P.testBit d = true ↔ ∃ y, lk L d = some y
  sg : ∀ d y, lk L d = some y → st d ≤ y
  b : ∀ v, ly = some v → ∀ d y, lk L d = some y → y < v
  sa : ∀ s ∈ ss, sat (lk L) s
  m : ∀ g, Val ss n st g → ∀ d, d < n → ∀ y, g d = some y → (∀ x, lk L d = some x → x ≤ y) ∧ (lk L d = none → ∃ v, ly = some v ∧ v ≤ y)
  g : (∀ d, d < n → st d = 0) → (∀ v, ly = some v → v ≤ (P : Int)) ∧ ∀ d y, lk L d = some y → y ≤ 65535
  f : (∀ d, d < n → st d = 0) → (∀ v, ly = some v → 0 ≤ v) ∧ ∀ k : Int, 0 ≤ k → (∀ v, ly = some v → k < v) → (ly = none → ∃ d y, lk L d = some y ∧ k ≤ y) → ∃ d, lk L d = some k
/-- those at or below a layer -/
def below (n : Nat) (g : Nat → Option Int) (v : Int) : Nat := setN ((List.range n).filter fun d => match g d with | some y => decide (y ≤ v) | none => false)
theorem below_bit {n : Nat} {g : Nat → Option Int} {v : Int} {d : Nat} : (below n g v).testBit d = true ↔ d < n ∧ ∃ y, g d = some y ∧ y ≤ v := by
  unfold below
  rw [setN_bit, decide_eq_true_iff, List.mem_filter, List.mem_range]
  constructor
  · rintro ⟨h1, h2⟩
    cases hg : g d with
    | none => rw [hg] at h2; cases h2
    | some y => rw [hg] at h2; exact ⟨h1, y, rfl, of_decide_eq_true h2⟩
  · rintro ⟨h1, y, h2, h3⟩
    rw [h2]
    exact ⟨h1, decide_eq_true h3⟩
theorem step_cases (s : SN) : (s.u = true ∧ s.step = 1) ∨ (s.u = false ∧ s.step = 0) := by unfold SN.step; cases s.u <;> simp
theorem Clm.below_sub {ss : List SN} {n : Nat} {st : Nat → Int} {L : List (Option Int)} {P R T : Nat} {v m : Int} (C : Clm ss n st L P (some v)) (ok : OkL n ss) (hT : ∀ U, Sub U R → (∀ s ∈ ss, stab P U s) → Sub U T) {g : Nat → Option Int} (hg : Val ss n st g)
    (hR : ∀ d, d < n → ∀ y, g d = some y → y ≤ m → R.testBit d = true) (hm : ∀ d, d < n → lk L d = none → ∀ y, g d = some y → m ≤ y) : Sub (below n g m) T := by
  refine hT _ (fun d hd => ?_) fun s hs => ?_
  · obtain ⟨h1, y, h2, h3⟩ := below_bit.mp hd
    exact hR d h1 y h2 h3
  · intro hh
    obtain ⟨h, hh1, hh2⟩ := and_ne.mp hh
    obtain ⟨h1, y, h2, h3⟩ := below_bit.mp hh2
    obtain ⟨l, hl1, x, hl2, hl3⟩ := hg.s s hs h hh1 y h2
    have hln : l < n := bit_lt (ok s hs).lo hl1
    refine and_ne.mpr ⟨l, hl1, ?_⟩
    rcases step_cases s with ⟨hu, hst⟩ | ⟨hu, hst⟩
    · rw [hu]
      show P.testBit l = true
      rw [C.p]
      cases hl : lk L l with
      | some z => exact ⟨z, rfl⟩
      | none =>
        have := hm l hln hl x hl2
        omega
    · rw [hu]
      exact below_bit.mpr ⟨hln, x, hl2, by omega⟩
theorem Clm.step {ss : List SN} {n : Nat} {st : Nat → Int} {L L' : List (Option Int)} {P R T : Nat} {v : Int} {nx : Option Int} (C : Clm ss n st L P (some v)) (ok : OkL n ss) (hR : ∀ d, R.testBit d = true ↔ d < n ∧ st d ≤ v)
    (hT1 : T < 2 ^ n) (hT2 : Sub T R) (hT3 : ∀ s ∈ ss, stab P T s) (hT4 : ∀ U, Sub U R → (∀ s ∈ ss, stab P U s) → Sub U T) (hL1 : L'.length = n) (hL2 : ∀ d, lk L' d = if (minus T P).testBit d = true then some v else lk L d)
    (hn1 : T ≠ P → nx = some (v + 1)) (hn16 : n ≤ 16) (hn2 : T = P → (∀ w, nx = some w → v < w ∧ (∃ d, d < n ∧ st d = w) ∧ ∀ d, d < n → v < st d → w ≤ st d) ∧ (nx = none → ∀ d, d < n → st d ≤ v)) : Clm ss n st L' T nx ∧ Sub P T := by
  have hPR : Sub P R := fun d hd => by
    obtain ⟨y, hy⟩ := (C.p d).mp hd
    have := C.b v rfl d y hy
    have := C.sg d y hy
    exact (hR d).mpr ⟨bit_lt C.lt hd, by omega⟩
  have hPT : Sub P T := hT4 P hPR fun s hs hh => by
    obtain ⟨h, h1, h2⟩ := and_ne.mp hh
    obtain ⟨y, hy⟩ := (C.p h).mp h2
    obtain ⟨l, l1, x, l2, _⟩ := C.sa s hs h h1 y hy
    refine and_ne.mpr ⟨l, l1, ?_⟩
    have := (C.p l).mpr ⟨x, l2⟩
    cases s.u <;> exact this
  have eL : ∀ d, (P.testBit d = true → lk L' d = lk L d) ∧ (T.testBit d = true → P.testBit d = false → lk L' d = some v) ∧ (T.testBit d = false → lk L' d = none) := fun d => by
    rw [hL2, minus_bit]
    refine ⟨fun h => ?_, fun h1 h2 => ?_, fun h => ?_⟩
    · rw [h]; simp
    · rw [h1, h2]; simp
    · rw [h]
      have : P.testBit d = false := by
        cases hp : P.testBit d with
        | false => rfl
        | true => rw [hPT d hp] at h; cases h
      cases hl : lk L d with
      | none => simp
      | some y => rw [(C.p d).mpr ⟨y, hl⟩] at this; cases this
  have hp' : ∀ d, T.testBit d = true ↔ ∃ y, lk L' d = some y := fun d => by
    constructor
    · intro h
      cases hp : P.testBit d with
      | true => obtain ⟨y, hy⟩ := (C.p d).mp hp; exact ⟨y, ((eL d).1 hp).trans hy⟩
      | false => exact ⟨v, (eL d).2.1 h hp⟩
    · rintro ⟨y, hy⟩
      cases hT : T.testBit d with
      | true => rfl
      | false => rw [(eL d).2.2 hT] at hy; cases hy
  -- what an entry is
  have ent : ∀ d y, lk L' d = some y → (P.testBit d = true ∧ lk L d = some y) ∨ (P.testBit d = false ∧ T.testBit d = true ∧ y = v) := fun d y hy => by
    have hT := (hp' d).mpr ⟨y, hy⟩
    cases hp : P.testBit d with
    | true => exact .inl ⟨rfl, by rw [← (eL d).1 hp]; exact hy⟩
    | false =>
      rw [(eL d).2.1 hT hp] at hy
      exact .inr ⟨rfl, hT, (Option.some.inj hy).symm⟩
  have le_v : ∀ d y, lk L' d = some y → y ≤ v := fun d y hy => by
    rcases ent d y hy with ⟨_, h⟩ | ⟨_, _, h⟩
    · exact Int.le_of_lt (C.b v rfl d y h)
    · omega
  have gt : ∀ w, nx = some w → v < w := fun w hw => by
    by_cases h : T = P
    · exact ((hn2 h).1 w hw).1
    · rw [hn1 h] at hw
      cases hw
      omega
  have above : ∀ g, Val ss n st g → ∀ d, d < n → T.testBit d = false → ∀ y, g d = some y → v < y := fun g hg d hd hTd y hy => by
    refine Int.not_le.mp fun z => ?_
    have := C.below_sub ok hT4 hg (m := v) (fun d hd y hy hyv => (hR d).mpr ⟨hd, Int.le_trans (hg.st d hd y hy) hyv⟩) (fun d hd hl y hy => by
      obtain ⟨w, e, h⟩ := (C.m g hg d hd y hy).2 hl
      cases e
      exact h) d (below_bit.mpr ⟨hd, y, hy, z⟩)
    rw [hTd] at this
    cases this
  refine ⟨⟨hL1, hT1, hp', fun d y hy => ?_, fun w hw d y hy => ?_, fun s hs h hh y hy => ?_, fun g hg d hd y hy => ⟨fun x hx => ?_, fun hl => ?_⟩, fun hz => ?_, fun hz => ?_⟩, hPT⟩
  · rcases ent d y hy with ⟨_, h⟩ | ⟨_, h, e⟩
    · exact C.sg d y h
    · have := (hR d).mp (hT2 d h)
      omega
  · have := le_v d y hy
    have := gt w hw
    omega
  · rcases ent h y hy with ⟨hp, h1⟩ | ⟨hp, h1, e⟩
    · obtain ⟨l, l1, x, l2, l3⟩ := C.sa s hs h hh y h1
      exact ⟨l, l1, x, by rw [(eL l).1 ((C.p l).mpr ⟨x, l2⟩)]; exact l2, l3⟩
    · obtain ⟨l, l1, l2⟩ := and_ne.mp (hT3 s hs (and_ne.mpr ⟨h, hh, h1⟩))
      rcases step_cases s with ⟨hu, hst⟩ | ⟨hu, hst⟩
      · rw [hu] at l2
        obtain ⟨x, hx⟩ := (C.p l).mp l2
        have := C.b v rfl l x hx
        exact ⟨l, l1, x, ((eL l).1 l2).trans hx, by omega⟩
      · rw [hu] at l2
        obtain ⟨x, hx⟩ := (hp' l).mp l2
        have := le_v l x hx
        exact ⟨l, l1, x, hx, by omega⟩
  · rcases ent d x hx with ⟨_, h⟩ | ⟨hp, h, e⟩
    · exact (C.m g hg d hd y hy).1 x h
    · have hl : lk L d = none := by
        cases hl : lk L d with
        | none => rfl
        | some z => rw [(C.p d).mpr ⟨z, hl⟩] at hp; cases hp
      obtain ⟨w, e2, h2⟩ := (C.m g hg d hd y hy).2 hl
      cases e2
      omega
  · have hTd : T.testBit d = false := by
      cases h : T.testBit d with
      | false => rfl
      | true => obtain ⟨z, hz⟩ := (hp' d).mp h; rw [hl] at hz; cases hz
    have hvy := above g hg d hd hTd y hy
    by_cases hTP : T = P
    · -- no day was placed: up to the next start none can be
      by_cases hw : ∃ w, nx = some w ∧ w ≤ y
      · exact hw
      exfalso
      have hnst : ∀ e, e < n → ∀ z, g e = some z → z ≤ y → st e ≤ v := fun e he z hz hzy => by
        refine Int.not_lt.mp fun q => hw ?_
        cases hx : nx with
        | none => exact absurd ((hn2 hTP).2 hx e he) (by omega)
        | some w =>
          have := ((hn2 hTP).1 w hx).2.2 e he q
          have := hg.st e he z hz
          exact ⟨w, rfl, by omega⟩
      -- the least of those that are not placed
      have least : ∃ d0 m, d0 < n ∧ T.testBit d0 = false ∧ g d0 = some m ∧ m ≤ y ∧ ∀ e, e < n → T.testBit e = false → ∀ z, g e = some z → m ≤ z := by
        have key : ∀ k : Nat, ∀ d y, d < n → T.testBit d = false → g d = some y → (y - v).toNat ≤ k → ∃ d0 m, d0 < n ∧ T.testBit d0 = false ∧ g d0 = some m ∧ m ≤ y ∧ ∀ e, e < n → T.testBit e = false → ∀ z, g e = some z → m ≤ z := fun k => by
          induction k with
          | zero => exact fun d y h1 h2 h3 h4 => absurd (above g hg d h1 h2 y h3) (by omega)
          | succ k ih =>
            intro d y h1 h2 h3 h4
            by_cases hs : ∃ e z, e < n ∧ T.testBit e = false ∧ g e = some z ∧ z < y
            · obtain ⟨e, z, e1, e2, e3, e4⟩ := hs
              obtain ⟨d0, m, a1, a2, a3, a4, a5⟩ := ih e z e1 e2 e3 (by have := above g hg e e1 e2 z e3; omega)
              exact ⟨d0, m, a1, a2, a3, by omega, a5⟩
            · exact ⟨d, y, h1, h2, h3, Int.le_refl _, fun e e1 e2 z e3 => Int.not_lt.mp fun q => hs ⟨e, z, e1, e2, e3, q⟩⟩
        exact key _ d y hd hTd hy (Nat.le_refl _)
      obtain ⟨d0, m, a1, a2, a3, a4, a5⟩ := least
      have := C.below_sub ok hT4 hg (m := m) (fun e he z hz hzm => (hR e).mpr ⟨he, hnst e he z hz (by omega)⟩) (fun e he hl z hz => a5 e he (by
        cases h : T.testBit e with
        | false => rfl
        | true =>
          rw [hTP] at h
          obtain ⟨q, hq⟩ := (C.p e).mp h
          rw [hl] at hq; cases hq) z hz) d0 (below_bit.mpr ⟨a1, m, a3, Int.le_refl _⟩)
      rw [a2] at this
      cases this
    · exact ⟨v + 1, hn1 hTP, by omega⟩
  · obtain ⟨g0, g1⟩ := C.g hz
    have gv := g0 v rfl
    have hT16 : T < 2 ^ 16 := Nat.lt_of_lt_of_le hT1 (Nat.pow_le_pow_right (by omega) hn16)
    have hadd : P + minus T P = T := by
      have h3 := minus_add T P
      have h4 : T &&& P = P := by
        refine Nat.eq_of_testBit_eq fun i => ?_
        rw [Nat.testBit_and]
        cases hi : P.testBit i with
        | true => rw [hPT i hi]; rfl
        | false => simp
      rwa [h4] at h3
    refine ⟨fun w hw => ?_, fun d y hd => ?_⟩
    · by_cases hTP : T = P
      · obtain ⟨_, ⟨d, hd, hw2⟩, _⟩ := (hn2 hTP).1 w hw
        rw [hz d hd] at hw2
        omega
      · rw [hn1 hTP] at hw
        cases hw
        omega
    · rcases ent d y hd with ⟨_, h⟩ | ⟨_, _, e⟩
      · exact g1 d y h
      · omega
  · obtain ⟨f0, f1⟩ := C.f hz
    have hv0 := f0 v rfl
    refine ⟨fun w hw => by have := gt w hw; omega, fun k hk h1 h2 => ?_⟩
    have old : k < v → ∃ d, lk L' d = some k := fun h => by
      obtain ⟨d, hd⟩ := f1 k hk (fun w e => by cases e; exact h) nofun
      exact ⟨d, ((eL d).1 ((C.p d).mpr ⟨k, hd⟩)).trans hd⟩
    by_cases hTP : T = P
    · cases hx : nx with
      | some w =>
        obtain ⟨hw1, ⟨d, hd, hw2⟩, _⟩ := (hn2 hTP).1 w hx
        rw [hz d hd] at hw2
        omega
      | none =>
        obtain ⟨d, y, hd, hky⟩ := h2 hx
        rcases ent d y hd with ⟨_, h⟩ | ⟨hp, h, _⟩
        · have := C.b v rfl d y h
          exact old (by omega)
        · rw [hTP, hp] at h; cases h
    · have h1 := h1 (v + 1) (hn1 hTP)
      by_cases hkv : k < v
      · exact old hkv
      · have hk : k = v := by omega
        subst hk
        have : ∃ d, T.testBit d = true ∧ P.testBit d = false := by
          by_cases z : ∃ d, T.testBit d = true ∧ P.testBit d = false
          · exact z
          · refine (hTP (Nat.eq_of_testBit_eq fun i => ?_)).elim
            cases h3 : T.testBit i with
            | true =>
              cases h4 : P.testBit i with
              | true => rfl
              | false => exact (z ⟨i, h3, h4⟩).elim
            | false =>
              cases h4 : P.testBit i with
              | false => rfl
              | true => rw [hPT i h4] at h3; cases h3
        obtain ⟨d, h3, h4⟩ := this
        exact ⟨d, (eL d).2.1 h3 h4⟩
end TW
set_option Elab.async false
set_option maxRecDepth 100000
set_option maxHeartbeats 1000000
set_option linter.all false
set_option autoImplicit false
/-! lifting: the whole climb -/
namespace TW
open Pa (rep)
open PaL (repL)
open PySem PySem.Spec PyProof.Rows L2 My
end TW
set_option Elab.async false
set_option maxRecDepth 100000
set_option maxHeartbeats 1000000
set_option linter.all false
set_option autoImplicit false
/-! lift -/
namespace TW
open Pa (rep)
open PaL (repL)
open PySem PySem.Spec PyProof.Rows L2 My
/-- what lift gives: the least order, or that there is none -/
structure ToldL (ss : List SN) (n : Nat) (r : Sm2 Lifted Stuck) (L : List (Option Int)) (P : Nat) : Prop where
  c : Clm ss n (fun _ => 0) L P none
  a : (∀ d, d < n → ∃ y, lk L d = some y) → ∃ x lo, r = .a x ∧ x.order = ⟨⟨lo⟩⟩ ∧ L = lo.map some ∧ Lay lo ∧ lo.length = n
  b : ¬ (∀ d, d < n → ∃ y, lk L d = some y) → ∃ x, r = .b x
end TW
set_option Elab.async false
set_option maxRecDepth 100000
set_option maxHeartbeats 1000000
set_option linter.all false
set_option autoImplicit false
/-! stay, with what it notes: the reasons and the heights -/
namespace TW
open Pa (rep)
open PaL (repL)
open PySem PySem.Spec PyProof.Rows L2 My
def hI (hs : List Int) (d : Nat) : Int := (hs[d]?).getD 0
/-- what is noted of those that left: R the room, P those placed, T those that stay -/
structure Pap (ss : List SN) (R P T : Nat) (rs : List (Option Int)) (hs : List Int) (rs' : List (Option Int)) (hs' : List Int) (h : Int) : Prop where
  nn : 0 ≤ h
  k : ∀ d, T.testBit d = true ∨ R.testBit d = false → lk rs' d = lk rs d ∧ hI hs' d = hI hs d
  l : ∀ d, R.testBit d = true → T.testBit d = false → ∃ (j : Nat) (s : SN), ss[j]? = some s ∧ lk rs' d = some (j : Int) ∧ 1 ≤ hI hs' d ∧ hI hs' d ≤ h ∧ s.hi.testBit d = true ∧
    (s.u = true → s.lo &&& P = 0) ∧ (s.u = false → ∀ i, s.lo.testBit i = true → R.testBit i = true → T.testBit i = false ∧ hI hs' i < hI hs' d)
theorem Pap.start (ss : List SN) (R P : Nat) (rs : List (Option Int)) (hs : List Int) : Pap ss R P R rs hs rs hs 0 :=
  ⟨Int.le_refl _, fun d _ => ⟨rfl, rfl⟩, fun d h1 h2 => by rw [h1] at h2; cases h2⟩
theorem Pap.step {ss : List SN} {R P T X : Nat} {rs rs1 rs2 : List (Option Int)} {hs hs1 hs2 : List Int} {h : Int} (p : Pap ss R P T rs hs rs1 hs1 h) {j : Nat} {s : SN} (hj : ss[j]? = some s) (hTR : Sub T R)
    (hX : ∀ d, X.testBit d = true ↔ s.hi.testBit d = true ∧ T.testBit d = true) (hu : s.u = true → s.lo &&& P = 0) (hv : s.u = false → s.lo &&& T = 0)
    (e1 : ∀ d, lk rs2 d = if X.testBit d = true then some (j : Int) else lk rs1 d) (e2 : ∀ d, hI hs2 d = if X.testBit d = true then h + 1 else hI hs1 d) :
    Pap ss R P (minus T X) rs hs rs2 hs2 (h + 1) := by
  have nn := p.nn
  have nX : ∀ d, T.testBit d = false → ¬ X.testBit d = true := fun d hd z => by
    have := ((hX d).mp z).2
    rw [hd] at this
    cases this
  refine ⟨by omega, fun d hd => ?_, fun d hR hT => ?_⟩
  · have hx : ¬ X.testBit d = true := fun z => by
      rcases hd with hd | hd
      · rw [minus_bit, z, Bool.and_eq_true] at hd
        cases hd.2
      · rw [hTR d ((hX d).mp z).2] at hd
        cases hd
    rw [e1, e2, if_neg hx, if_neg hx]
    refine p.k d ?_
    rcases hd with hd | hd
    · rw [minus_bit, Bool.and_eq_true] at hd
      exact .inl hd.1
    · exact .inr hd
  · by_cases hx : X.testBit d = true
    · refine ⟨j, s, hj, by rw [e1, if_pos hx], by rw [e2, if_pos hx]; omega, by rw [e2, if_pos hx]; exact Int.le_refl _, ((hX d).mp hx).1, hu, fun hf i hi hRi => ?_⟩
      have hTi : T.testBit i = false := by
        cases z : T.testBit i with
        | false => rfl
        | true => exact (and_ne.mpr ⟨i, hi, z⟩ (hv hf)).elim
      obtain ⟨_, _, _, _, _, b, _⟩ := p.l i hRi hTi
      refine ⟨by rw [minus_bit, hTi]; rfl, ?_⟩
      rw [e2, e2, if_pos hx, if_neg (nX i hTi)]
      omega
    · have hTd : T.testBit d = false := by
        rw [minus_bit] at hT
        cases z : T.testBit d with
        | false => rfl
        | true =>
          rw [z] at hT
          cases q : X.testBit d with
          | false => rw [q] at hT; cases hT
          | true => exact (hx q).elim
      obtain ⟨j', s', a1, a2, a3, a4, a5, a6, a7⟩ := p.l d hR hTd
      refine ⟨j', s', a1, by rw [e1, if_neg hx]; exact a2, by rw [e2, if_neg hx]; exact a3, by rw [e2, if_neg hx]; omega, a5, a6, fun hf i hi hRi => ?_⟩
      obtain ⟨b1, b2⟩ := a7 hf i hi hRi
      refine ⟨by rw [minus_bit, b1]; rfl, ?_⟩
      rw [e2, e2, if_neg hx, if_neg (nX i b1)]
      exact b2
end TW
set_option Elab.async false
set_option maxRecDepth 100000
set_option maxHeartbeats 1000000
set_option linter.all false
set_option autoImplicit false
/-! the climb, with its reasons and heights -/
namespace TW
open Pa (rep)
open PaL (repL)
open PySem PySem.Spec PyProof.Rows L2 My
/-- what stands behind a day that was lifted: U of the layers below, V of the others -/
def Why (ss : List SN) (rs : List (Option Int)) (hs : List Int) (d : Nat) (U V : Nat → Prop) : Prop :=
  ∃ (j : Nat) (s : SN), ss[j]? = some s ∧ lk rs d = some (j : Int) ∧ 1 ≤ hI hs d ∧ s.hi.testBit d = true ∧ (s.u = true → ∀ l, s.lo.testBit l = true → U l) ∧ (s.u = false → ∀ l, s.lo.testBit l = true → V l)
theorem Why.mono {ss : List SN} {rs rs' : List (Option Int)} {hs hs' : List Int} {d : Nat} {U V U' V' : Nat → Prop} (w : Why ss rs hs d U V) (e1 : lk rs' d = lk rs d) (e2 : hI hs' d = hI hs d) (h1 : ∀ l, U l → U' l) (h2 : ∀ l, V l → V' l) : Why ss rs' hs' d U' V' := by
  obtain ⟨j, s, a, b, c, e, f, g⟩ := w
  exact ⟨j, s, a, e1.trans b, by rw [e2]; exact c, e, fun u l hl => h1 l (f u l hl), fun u l hl => h2 l (g u l hl)⟩
structure CP (ss : List SN) (n : Nat) (L : List (Option Int)) (rs : List (Option Int)) (hs : List Int) (ly : Option Int) : Prop where
  h0 : ∀ d, 0 ≤ hI hs d
  z : ∀ d, lk L d = some 0 → lk rs d = none
  p : ∀ d y, lk L d = some y → 0 < y → Why ss rs hs d (fun l => ∀ x, lk L l = some x → y ≤ x + 1) (fun l => ∀ x, lk L l = some x → y ≤ x ∧ (x = y → hI hs l < hI hs d))
  q : ∀ v, ly = some v → 0 ≤ v ∧ (v = 0 → ∀ d, d < n → lk L d = none → lk rs d = none) ∧
    (0 < v → ∀ d, d < n → lk L d = none → Why ss rs hs d (fun l => ∀ x, lk L l = some x → v ≤ x + 1) (fun l => lk L l = none ∧ hI hs l < hI hs d))
  e : ly = none → ∀ d, d < n → lk L d = none → Why ss rs hs d (fun l => lk L l = none) (fun l => lk L l = none ∧ hI hs l < hI hs d)
theorem CP.start (ss : List SN) (n : Nat) : CP ss n (List.replicate n none) (List.replicate n none) (List.replicate n 0) (some 0) :=
  by
  have no : ∀ (d : Nat) (y : Int), lk (List.replicate n none) d = some y → False := fun d y h => by
    rw [lk_rep] at h
    cases h
  refine ⟨fun d => ?_, fun d h => (no d 0 h).elim, fun d y h => (no d y h).elim, fun v hv => ?_, fun h => nomatch h⟩
  · unfold hI
    rw [List.getElem?_replicate]
    split <;> decide
  · cases hv
    exact ⟨Int.le_refl _, fun _ d _ _ => lk_rep n d, fun h => absurd h (by decide)⟩
theorem CP.step {ss : List SN} {n : Nat} {st : Nat → Int} {L L' : List (Option Int)} {P R T : Nat} {v : Int} {nx : Option Int} {rs rs' : List (Option Int)} {hs hs' : List Int} {h : Int} (K : CP ss n L rs hs (some v)) (C : Clm ss n st L P (some v)) (ok : OkL n ss)
    (hR : ∀ d, d < n → R.testBit d = true) (hPT : Sub P T) (hL : ∀ d, lk L' d = if (minus T P).testBit d = true then some v else lk L d)
    (p : Pap ss R P T rs hs rs' hs' h) (n1 : T ≠ P → nx = some (v + 1)) (n2 : T = P → nx = none) (hTn : T < 2 ^ n) : CP ss n L' rs' hs' nx := by
  obtain ⟨v0, q1, q2⟩ := K.q v rfl
  have hN : ∀ d, lk L d = none ↔ P.testBit d = false := fun d => by
    have := C.p d
    cases hl : lk L d with
    | none =>
      refine ⟨fun _ => ?_, fun _ => rfl⟩
      cases hp : P.testBit d with
      | false => rfl
      | true =>
        obtain ⟨y, hy⟩ := this.mp hp
        rw [hl] at hy; cases hy
    | some y =>
      refine ⟨fun z => (by cases z), fun z => ?_⟩
      rw [this.mpr ⟨y, hl⟩] at z
      cases z
  have hT : ∀ d, T.testBit d = true → (P.testBit d = true ∧ lk L' d = lk L d) ∨ (P.testBit d = false ∧ lk L' d = some v) := fun d hd => by
    rw [hL, minus_bit, hd]
    cases hp : P.testBit d with
    | true => exact .inl ⟨rfl, by simp⟩
    | false => exact .inr ⟨rfl, by simp⟩
  have hF : ∀ d, T.testBit d = false → P.testBit d = false ∧ lk L' d = none := fun d hd => by
    have hp : P.testBit d = false := by
      cases hp : P.testBit d with
      | false => rfl
      | true => rw [hPT d hp] at hd; cases hd
    rw [hL, minus_bit, hd]
    exact ⟨hp, by simp [(hN d).mpr hp]⟩
  have hS : ∀ d x, lk L' d = some x → T.testBit d = true ∧ ((lk L d = some x ∧ x < v) ∨ (lk L d = none ∧ x = v)) := fun d x hx => by
    cases ht : T.testBit d with
    | false => rw [(hF d ht).2] at hx; cases hx
    | true =>
      refine ⟨rfl, ?_⟩
      rcases hT d ht with ⟨_, e⟩ | ⟨a, e⟩
      · rw [e] at hx
        exact .inl ⟨hx, C.b v rfl d x hx⟩
      · rw [e] at hx
        cases hx
        exact .inr ⟨(hN d).mpr a, rfl⟩
  have hO : ∀ d, lk L' d = none → T.testBit d = false := fun d hd => by
    cases ht : T.testBit d with
    | false => rfl
    | true =>
      rcases hT d ht with ⟨a, e⟩ | ⟨a, e⟩
      · rw [e] at hd
        rw [(hN d).mp hd] at a
        cases a
      · rw [e] at hd; cases hd
  have same : ∀ d, T.testBit d = true → lk rs' d = lk rs d ∧ hI hs' d = hI hs d := fun d hd => p.k d (.inl hd)
  have lon : ∀ s ∈ ss, ∀ l, s.lo.testBit l = true → l < n := fun s hs l hl => bit_lt (ok s hs).lo hl
  have left : ∀ d, d < n → lk L' d = none → ∃ (j : Nat) (s : SN), ss[j]? = some s ∧ lk rs' d = some (j : Int) ∧ 1 ≤ hI hs' d ∧ s.hi.testBit d = true ∧ (s.u = true → ∀ l, s.lo.testBit l = true → lk L l = none) ∧
      (s.u = false → ∀ l, s.lo.testBit l = true → lk L' l = none ∧ hI hs' l < hI hs' d) := fun d hd hn => by
    obtain ⟨j, s, a1, a2, a3, _, a5, a6, a7⟩ := p.l d (hR d hd) (hO d hn)
    refine ⟨j, s, a1, a2, a3, a5, fun u l hl => ?_, fun u l hl => ?_⟩
    · refine (hN l).mpr ?_
      cases hp : P.testBit l with
      | false => rfl
      | true => exact (and_ne.mpr ⟨l, hl, hp⟩ (a6 u)).elim
    · obtain ⟨b1, b2⟩ := a7 u l hl (hR l (lon s (List.mem_of_getElem? a1) l hl))
      exact ⟨(hF l b1).2, b2⟩
  refine ⟨fun d => ?_, fun d hd => ?_, fun d y hd hy => ?_, fun w hw => ?_, fun hw d hd hn => ?_⟩
  · by_cases hx : T.testBit d = true ∨ R.testBit d = false
    · rw [(p.k d hx).2]
      exact K.h0 d
    · obtain ⟨_, _, _, _, a, _⟩ := p.l d (by cases q : R.testBit d with | true => rfl | false => exact (hx (.inr q)).elim) (by cases q : T.testBit d with | false => rfl | true => exact (hx (.inl q)).elim)
      omega
  · obtain ⟨ht, hc⟩ := hS d 0 hd
    rw [(same d ht).1]
    rcases hc with ⟨a, _⟩ | ⟨a, b⟩
    · exact K.z d a
    · exact q1 b.symm d (bit_lt hTn ht) a
  · obtain ⟨ht, hc⟩ := hS d y hd
    obtain ⟨s1, s2⟩ := same d ht
    rcases hc with ⟨a, b⟩ | ⟨a, b⟩
    · refine (K.p d y a hy).mono s1 s2 (fun l hl x hx => ?_) fun l hl x hx => ?_
      · rcases (hS l x hx).2 with ⟨c, _⟩ | ⟨_, c⟩
        · exact hl x c
        · omega
      · rcases (hS l x hx).2 with ⟨c, _⟩ | ⟨_, c⟩
        · obtain ⟨h1, h2⟩ := hl x c
          exact ⟨h1, fun e => by rw [(same l (hS l x hx).1).2, s2]; exact h2 e⟩
        · exact ⟨by omega, fun e => by omega⟩
    · subst b
      refine (q2 hy d (bit_lt hTn ht) a).mono s1 s2 (fun l hl x hx => ?_) fun l ⟨h1, h2⟩ x hx => ?_
      · rcases (hS l x hx).2 with ⟨c, _⟩ | ⟨_, c⟩
        · exact hl x c
        · omega
      · rcases (hS l x hx).2 with ⟨c, _⟩ | ⟨_, c⟩
        · rw [h1] at c; cases c
        · exact ⟨by omega, fun _ => by rw [(same l (hS l x hx).1).2, s2]; exact h2⟩
  · by_cases hTP : T = P
    · rw [n2 hTP] at hw; cases hw
    · rw [n1 hTP] at hw
      cases hw
      refine ⟨by omega, fun e => by omega, fun _ d hd hn => ?_⟩
      obtain ⟨j, s, a1, a2, a3, a4, a5, a6⟩ := left d hd hn
      refine ⟨j, s, a1, a2, a3, a4, fun u l hl x hx => ?_, a6⟩
      have z := a5 u l hl
      rcases (hS l x hx).2 with ⟨c, _⟩ | ⟨_, c⟩
      · rw [z] at c; cases c
      · omega
  · by_cases hTP : T = P
    · obtain ⟨j, s, a1, a2, a3, a4, a5, a6⟩ := left d hd hn
      refine ⟨j, s, a1, a2, a3, a4, fun u l hl => ?_, a6⟩
      exact (hF l (by rw [hTP]; exact (hN l).mp (a5 u l hl))).2
    · rw [n1 hTP] at hw; cases hw
end TW
set_option Elab.async false
set_option maxRecDepth 100000
set_option maxHeartbeats 1000000
set_option linter.all false
set_option autoImplicit false
/-! the climb and lifting, with further sayings, reasons and heights -/
namespace TW
open Pa (rep)
open PaL (repL)
open PySem PySem.Spec PyProof.Rows L2 My
theorem setN_lt16 (n : Nat) (ds : List Nat) (h : ∀ d ∈ ds, d < n) : setN ds < 2 ^ n := Nat.lt_pow_two_of_testBit _ fun i hi => by
  rw [setN_bit]
  exact decide_eq_false fun z => by have := h i z; omega
/-- what lift gives, with its papers -/
structure Told2 (ss : List SN) (n : Nat) (r : Sm2 Lifted Stuck) (L : List (Option Int)) (P : Nat) : Prop where
  t : ToldL ss n r L P
  pp : ∃ (rs : List (Option Int)) (hs : List Int), rs.length = n ∧ hs.length = n ∧ CP ss n L rs hs none ∧ (∀ x, r = .a x → x.reasons = ⟨rs⟩ ∧ x.heights = ⟨hs⟩) ∧
    ∀ x, r = .b x → ∃ D : Nat, x.days = (D : Int) ∧ D < 2 ^ n ∧ (∀ d, D.testBit d = true ↔ d < n ∧ lk L d = none) ∧ x.heights = ⟨hs⟩ ∧ x.reasons.l.length = n ∧ ∀ d, d < n → lk x.reasons.l d = if lk L d = none then lk rs d else none
end TW
set_option Elab.async false
set_option maxRecDepth 100000
set_option maxHeartbeats 1000000
set_option linter.all false
set_option autoImplicit false
/-! the lesser of two orders, orders without gaps, below -/
namespace TW
open Pa (rep)
open PaL (repL)
open PySem PySem.Spec PyProof.Rows L2 My
/-! ### closed -/
/-- f keeps the order of l's values -/
def Up (f : Int → Int) (l : List Int) : Prop := ∀ x ∈ l, ∀ y ∈ l, x < y → f x < f y
theorem Up.le {f : Int → Int} {l : List Int} (h : Up f l) {x y : Int} (hx : x ∈ l) (hy : y ∈ l) : x ≤ y ↔ f x ≤ f y := by
  constructor
  · intro z
    rcases Int.lt_or_eq_of_le z with z | z
    · exact Int.le_of_lt (h x hx y hy z)
    · rw [z]; exact Int.le_refl _
  · intro z
    refine Int.not_lt.mp fun w => ?_
    have := h y hy x hx w
    omega
theorem Up.lt {f : Int → Int} {l : List Int} (h : Up f l) {x y : Int} (hx : x ∈ l) (hy : y ∈ l) : x < y ↔ f x < f y := by
  have := h.le hy hx
  omega
theorem lay_mem (l : List Int) (d : Nat) (h : d < l.length) : lay ⟨⟨l⟩⟩ d ∈ l := by
  unfold lay
  simp [h]
/-- values 0, 1, .. without a gap -/
def Full (l : List Int) : Prop := ∃ m : Nat, ∀ x : Int, x ∈ l ↔ 0 ≤ x ∧ x ≤ m
theorem srt_full {f : Int → Int} {l : List Int} (h : Up f l) (m : Nat) (hm : ∀ x : Int, x ∈ l ↔ 0 ≤ x ∧ x ≤ m) : srtU (l.map f) = (List.range (m + 1)).map fun i : Nat => f i := by
  refine lt_uniq (srtU_lt _) ?_ fun k => ?_
  · rw [List.pairwise_map]
    refine List.Pairwise.imp_of_mem (fun {a b} ha hb hab => ?_) List.pairwise_lt_range
    exact h _ ((hm _).mpr ⟨by omega, by have := List.mem_range.mp ha; omega⟩) _ ((hm _).mpr ⟨by omega, by have := List.mem_range.mp hb; omega⟩) (by omega)
  · rw [srtU_mem, List.mem_map, List.mem_map]
    constructor
    · rintro ⟨x, hx, rfl⟩
      obtain ⟨h1, h2⟩ := (hm x).mp hx
      exact ⟨x.toNat, List.mem_range.mpr (by omega), by rw [Int.toNat_of_nonneg h1]⟩
    · rintro ⟨i, hi, rfl⟩
      exact ⟨i, (hm i).mpr ⟨by omega, by have := List.mem_range.mp hi; omega⟩, rfl⟩
/-! ### keeping -/
/-! ### below -/
def leL (a b : List Int) : Bool := (zipL a b).all fun p => decide (p.a ≤ p.b)
theorem leL_iff {a b : List Int} (h : a.length = b.length) : leL a b = true ↔ ∀ d, d < a.length → lay ⟨⟨a⟩⟩ d ≤ lay ⟨⟨b⟩⟩ d := by
  unfold leL
  rw [List.all_eq_true]
  constructor
  · intro z d hd
    have hm : (⟨lay ⟨⟨a⟩⟩ d, lay ⟨⟨b⟩⟩ d⟩ : T2 Int Int) ∈ zipL a b := by
      refine List.mem_of_getElem? (i := d) ?_
      have hb : d < b.length := by omega
      unfold zipL lay
      rw [List.getElem?_map, List.getElem?_eq_getElem (by rw [List.length_zip]; omega)]
      simp [hd, hb]
    exact of_decide_eq_true (z _ hm)
  · intro z p hp
    obtain ⟨i, hi⟩ := List.mem_iff_getElem?.mp hp
    obtain ⟨h1, h2⟩ := zipL_get hi
    have hlt := (List.getElem?_eq_some_iff.mp h1).1
    have := z i hlt
    unfold lay at this
    rw [show ((Order.mk ⟨a⟩).layers.l[i]?) = some p.a from h1, show ((Order.mk ⟨b⟩).layers.l[i]?) = some p.b from h2] at this
    exact decide_eq_true this
theorem lay_ext {a b : List Int} (h : a.length = b.length) (z : ∀ d, d < a.length → lay ⟨⟨a⟩⟩ d = lay ⟨⟨b⟩⟩ d) : a = b := by
  refine List.ext_getElem h fun i h1 h2 => ?_
  have := z i h1
  unfold lay at this
  simpa [h1, h2] using this
end TW
set_option Elab.async false
set_option maxRecDepth 100000
set_option maxHeartbeats 1000000
set_option linter.all false
set_option autoImplicit false
/-! k15's questions -/
namespace TW
open Pa (rep)
open PaL (repL)
open PySem PySem.Spec PyProof.Rows L2 My
end TW
set_option Elab.async false
set_option maxRecDepth 100000
set_option maxHeartbeats 1000000
set_option linter.all false
set_option autoImplicit false
/-! k15: the law -/
namespace TW
open Pa (rep)
open PaL (repL)
open PySem PySem.Spec PyProof.Rows L2 My
def ordF (l : List Int) (d : Nat) : Option Int := l[d]?
theorem ordF_lay {l : List Int} {d : Nat} (h : d < l.length) : ordF l d = some (lay ⟨⟨l⟩⟩ d) := by
  unfold ordF lay
  simp [h]
theorem ordF_some {l : List Int} {d : Nat} {y : Int} (h : ordF l d = some y) : d < l.length ∧ y = lay ⟨⟨l⟩⟩ d := by
  have hd := (List.getElem?_eq_some_iff.mp h).1
  rw [ordF_lay hd] at h
  exact ⟨hd, (Option.some.inj h).symm⟩
theorem sat_kept {l : List Int} {s : SN} (hz : l.length ≤ 16) (ok : s.Ok l.length) : sat (ordF l) s ↔ s.kept ⟨⟨l⟩⟩ = true := by
  rw [kept_iff]
  constructor
  · intro h d hd
    have hdl := days_lt ok.hi hd
    obtain ⟨c, c1, x, c2, c3⟩ := h d (mem_days.mp hd).2 _ (ordF_lay hdl)
    obtain ⟨c4, c5⟩ := ordF_some c2
    exact ⟨c, mem_days.mpr ⟨by omega, c1⟩, by omega⟩
  · intro h d hd y hy
    obtain ⟨h1, h2⟩ := ordF_some hy
    obtain ⟨c, c1, c2⟩ := h d (mem_days.mpr ⟨by omega, hd⟩)
    exact ⟨c, (mem_days.mp c1).2, _, ordF_lay (days_lt ok.lo c1), by omega⟩
theorem val_of {l : List Int} {ss : List SN} (ly : Lay l) (ok : OkL l.length ss) (hk : ∀ s ∈ ss, s.kept ⟨⟨l⟩⟩ = true) : Val ss l.length (fun _ => 0) (ordF l) :=
  ⟨fun s hs => (sat_kept ly.le (ok s hs)).mpr (hk s hs), fun d hd y hy => by
    obtain ⟨h1, h2⟩ := ordF_some hy
    rw [h2]
    exact (ly.b _ (lay_mem l d h1)).1⟩
theorem ex_max : ∀ {l : List Int}, l ≠ [] → ∃ M ∈ l, ∀ x ∈ l, x ≤ M
  | [], h => (h rfl).elim
  | [a], _ => ⟨a, List.mem_cons_self, fun x hx => by rw [List.mem_singleton.mp hx]; exact Int.le_refl _⟩
  | a :: b :: l, _ => by
    obtain ⟨M, hM, h⟩ := ex_max (l := b :: l) nofun
    by_cases q : a ≤ M
    · exact ⟨M, List.mem_cons_of_mem _ hM, fun x hx => (List.mem_cons.mp hx).elim (fun e => e ▸ q) (h x)⟩
    · exact ⟨a, List.mem_cons_self, fun x hx => (List.mem_cons.mp hx).elim (fun e => by omega) fun e => by have := h x e; omega⟩
/-- what the least order is -/
theorem told_of {ss : List SN} {n : Nat} {r : Sm2 Lifted Stuck} {L : List (Option Int)} {P : Nat} (T : ToldL ss n r L P) (hn : Dc n) (ok : OkL n ss) {l : List Int} (ly : Lay l) (hl : l.length = n) (hk : ∀ s ∈ ss, s.kept ⟨⟨l⟩⟩ = true) :
    ∃ x lo, r = .a x ∧ x.order = ⟨⟨lo⟩⟩ ∧ Lay lo ∧ lo.length = n ∧ (∀ s ∈ ss, s.kept ⟨⟨lo⟩⟩ = true) ∧ Full lo ∧ ∀ l' : List Int, Lay l' → l'.length = n → (∀ s ∈ ss, s.kept ⟨⟨l'⟩⟩ = true) → leL lo l' = true := by
  have hp := hn.pos
  have v := val_of ly (hl.symm ▸ ok) hk
  rw [hl] at v
  have hall : ∀ d, d < n → ∃ y, lk L d = some y := fun d hd => by
    cases h : lk L d with
    | some y => exact ⟨y, rfl⟩
    | none =>
      obtain ⟨w, e, _⟩ := (T.c.m _ v d hd _ (ordF_lay (by rw [hl]; exact hd))).2 h
      cases e
  obtain ⟨x, lo, e1, e2, e3, e4, e5⟩ := T.a hall
  have hlk : ∀ d, lk L d = ordF lo d := fun d => by
    rw [e3]
    unfold lk ordF
    rw [List.getElem?_map]
    cases lo[d]? <;> rfl
  have hlo : lo ≠ [] := fun z => by rw [z] at e5; simp at e5; omega
  refine ⟨x, lo, e1, e2, e4, e5, fun s hs => ?_, ?_, fun l' ly' hl' hk' => ?_⟩
  · have h := T.c.sa s hs
    rw [show lk L = ordF lo from funext hlk] at h
    exact (sat_kept e4.le (e5.symm ▸ ok s hs)).mp h
  · obtain ⟨M, hM, hmax⟩ := ex_max hlo
    have hM0 := (e4.b M hM).1
    refine ⟨M.toNat, fun k => ⟨fun hk => ⟨(e4.b k hk).1, by have := hmax k hk; omega⟩, fun ⟨h0, h1⟩ => ?_⟩⟩
    obtain ⟨d, hd⟩ := List.mem_iff_getElem?.mp hM
    obtain ⟨d2, hd2⟩ := (T.c.f fun _ _ => rfl).2 k h0 nofun fun _ => ⟨d, M, (hlk d).trans hd, by omega⟩
    exact List.mem_of_getElem? ((hlk d2).symm.trans hd2)
  · have v' := val_of ly' (hl'.symm ▸ ok) hk'
    rw [hl'] at v'
    rw [leL_iff (e5.trans hl'.symm)]
    intro d hd
    have hdn : d < n := by rwa [e5] at hd
    exact (T.c.m _ v' d hdn _ (ordF_lay (by rw [hl']; exact hdn))).1 _ ((hlk d).trans (ordF_lay hd))
def SN.of (x : T3 Int Int Bool) : SN := ⟨x.a.toNat, x.b.toNat, x.c⟩
theorem g_bag (ns : List Int) (k : Int) (h : ns.length ≤ 63) (h0 : 0 ≤ k) (h1 : k < 1000) : Gv (w_bag ⟨ns⟩ k) ⟨⟩ := Gv.need' ⟨h, h0, h1⟩ Gv.ret
end TW
set_option Elab.async false
set_option maxRecDepth 100000
set_option maxHeartbeats 1000000
set_option linter.all false
set_option autoImplicit false
/-! plain lifting, bounded by the number of the days -/
namespace TW
open Pa (rep)
open PaL (repL)
open PySem PySem.Spec PyProof.Rows L2 My
section
variable {α β S L : Type}
theorem filter_lt {p q : α → Bool} (h : ∀ x, p x = true → q x = true) : ∀ {xs : List α} {a : α}, a ∈ xs → p a = false → q a = true → (xs.filter p).length < (xs.filter q).length
  | x :: xs, a, m, h1, h2 => by
    have le : ∀ ys : List α, (ys.filter p).length ≤ (ys.filter q).length := fun ys => by
      induction ys with
      | nil => exact Nat.le_refl _
      | cons y ys ih =>
        rw [List.filter_cons, List.filter_cons]
        cases hp : p y with
        | true => rw [h y hp, if_pos rfl, if_pos rfl]; exact Nat.succ_le_succ ih
        | false =>
          rw [if_neg Bool.false_ne_true]
          split
          · exact Nat.le_succ_of_le ih
          · exact ih
    rw [List.filter_cons, List.filter_cons]
    rcases List.mem_cons.mp m with e | e
    · subst e
      rw [h1, h2, if_pos rfl, if_neg Bool.false_ne_true]
      exact Nat.lt_succ_of_le (le xs)
    · have ih := filter_lt h e h1 h2
      cases hp : p x with
      | true => rw [h x hp, if_pos rfl, if_pos rfl]; exact Nat.succ_lt_succ ih
      | false =>
        rw [if_neg Bool.false_ne_true]
        split
        · exact Nat.lt_succ_of_lt ih
        · exact ih
end
/-- layers below the number of the days -/
theorem Clm.lt_n {ss : List SN} {n : Nat} {L : List (Option Int)} {P : Nat} (C : Clm ss n (fun _ => 0) L P none) {d : Nat} {y : Int} (h : lk L d = some y) : 0 ≤ y ∧ y < n := by
  have h0 : 0 ≤ y := C.sg d y h
  refine ⟨h0, ?_⟩
  have full : ∀ k : Int, 0 ≤ k → k ≤ y → ∃ d, lk L d = some k := fun k k0 k1 => (C.f fun _ _ => rfl).2 k k0 nofun fun _ => ⟨d, y, h, k1⟩
  have dn : ∀ d x, lk L d = some x → d < n := fun d x hx => by
    rw [← C.len]
    refine Nat.lt_of_not_le fun z => ?_
    unfold lk at hx
    rw [List.getElem?_eq_none z] at hx
    cases hx
  let cnt (k : Nat) : Nat := ((List.range n).filter fun d => match lk L d with | some x => decide (x < (k : Int)) | none => false).length
  have step : ∀ k : Nat, (k : Int) ≤ y + 1 → k ≤ cnt k := fun k => by
    induction k with
    | zero => intro _; exact Nat.zero_le _
    | succ k ih =>
      intro hk
      have i := ih (by omega)
      obtain ⟨e, he⟩ := full k (by omega) (by omega)
      have : cnt k < cnt (k + 1) := by
        refine filter_lt (fun x hx => ?_) (List.mem_range.mpr (dn e k he)) ?_ ?_
        · revert hx
          cases lk L x with
          | none => exact id
          | some z => intro q; have q := of_decide_eq_true q; exact decide_eq_true (by omega)
        · rw [he]; exact decide_eq_false (by omega)
        · rw [he]; exact decide_eq_true (by omega)
      omega
  have h1 := step (y.toNat + 1) (by omega)
  have h2 : cnt (y.toNat + 1) ≤ n := Nat.le_trans (List.length_filter_le _ _) (Nat.le_of_eq List.length_range)
  omega
/-- the least one of a day set's layers, at most n -/
def lstN (n : Nat) (F : List Int) (s : SN) : Int := minL (((List.range n).filter fun d => s.lo.testBit d).map (lay ⟨⟨F⟩⟩) ++ [(n : Int)])
def up1 (n : Nat) (F : List Int) (s : SN) : List Int := (List.range n).map fun d => if s.hi.testBit d = true then max (lay ⟨⟨F⟩⟩ d) (min (lstN n F s + s.step) n) else lay ⟨⟨F⟩⟩ d
theorem lay_up1 {n : Nat} (F : List Int) (s : SN) {d : Nat} (h : d < n) : lay ⟨⟨up1 n F s⟩⟩ d = if s.hi.testBit d = true then max (lay ⟨⟨F⟩⟩ d) (min (lstN n F s + s.step) n) else lay ⟨⟨F⟩⟩ d := by
  unfold up1
  show ((List.map _ (List.range n))[d]?).getD 0 = _
  rw [List.getElem?_map, List.getElem?_range h]
  rfl
theorem lstN_le {n : Nat} (F : List Int) (s : SN) : lstN n F s ≤ n ∧ ∀ l, l < n → s.lo.testBit l = true → lstN n F s ≤ lay ⟨⟨F⟩⟩ l :=
  ⟨minL_le (List.mem_append_right _ (List.mem_singleton.mpr rfl)), fun l h1 h2 => minL_le (List.mem_append_left _ (List.mem_map_of_mem (List.mem_filter.mpr ⟨List.mem_range.mpr h1, h2⟩)))⟩
theorem lstN_at {n : Nat} (F : List Int) (s : SN) : lstN n F s = n ∨ ∃ l, l < n ∧ s.lo.testBit l = true ∧ lay ⟨⟨F⟩⟩ l = lstN n F s := by
  have := minL_mem (xs := ((List.range n).filter fun d => s.lo.testBit d).map (lay ⟨⟨F⟩⟩) ++ [(n : Int)]) (by simp)
  rcases List.mem_append.mp this with h | h
  · obtain ⟨l, hl, e⟩ := List.mem_map.mp h
    obtain ⟨h1, h2⟩ := List.mem_filter.mp hl
    exact .inr ⟨l, List.mem_range.mp h1, h2, e⟩
  · exact .inl (List.mem_singleton.mp h)
/-- the told layers, n in the place of those without end -/
def toldN (n : Nat) (L : List (Option Int)) : List Int := (List.range n).map fun d => (lk L d).getD n
theorem lay_toldN {n : Nat} (L : List (Option Int)) {d : Nat} (h : d < n) : lay ⟨⟨toldN n L⟩⟩ d = (lk L d).getD n := by
  unfold toldN
  show ((List.map _ (List.range n))[d]?).getD 0 = _
  rw [List.getElem?_map, List.getElem?_range h]
  rfl
theorem up1_le {ss : List SN} {n : Nat} {L : List (Option Int)} {P : Nat} (C : Clm ss n (fun _ => 0) L P none) (ok : OkL n ss) {F : List Int} (hF : ∀ d, d < n → lay ⟨⟨F⟩⟩ d ≤ lay ⟨⟨toldN n L⟩⟩ d) {s : SN} (hs : s ∈ ss) {d : Nat} (hd : d < n) :
    lay ⟨⟨up1 n F s⟩⟩ d ≤ lay ⟨⟨toldN n L⟩⟩ d := by
  rw [lay_up1 F s hd]
  split
  · rename_i hh
    refine Int.max_le.mpr ⟨hF d hd, ?_⟩
    rw [lay_toldN L hd]
    cases hl : lk L d with
    | none => exact Int.min_le_right _ _
    | some y =>
      refine Int.le_trans (Int.min_le_left _ _) ?_
      obtain ⟨l, h1, x, h2, h3⟩ := C.sa s hs d hh y hl
      have hln : l < n := bit_lt (ok s hs).lo h1
      have h4 := (lstN_le (n := n) F s).2 l hln h1
      have h5 := hF l hln
      rw [lay_toldN L hln, h2] at h5
      show lstN n F s + s.step ≤ y
      have h5 : lay ⟨⟨F⟩⟩ l ≤ x := h5
      omega
  · exact hF d hd
theorem stable_told {ss : List SN} {n : Nat} {L : List (Option Int)} {P : Nat} (C : Clm ss n (fun _ => 0) L P none) (ok : OkL n ss) {F : List Int} (hl : F.length = n) (h0 : ∀ d, d < n → 0 ≤ lay ⟨⟨F⟩⟩ d)
    (hF : ∀ d, d < n → lay ⟨⟨F⟩⟩ d ≤ lay ⟨⟨toldN n L⟩⟩ d) (hst : ∀ s ∈ ss, ∀ d, d < n → s.hi.testBit d = true → min (lstN n F s + s.step) n ≤ lay ⟨⟨F⟩⟩ d) : F = toldN n L := by
  have tl : (toldN n L).length = n := by unfold toldN; rw [List.length_map, List.length_range]
  refine lay_ext (hl.trans tl.symm) fun d hd => ?_
  have hd : d < n := by omega
  refine Int.le_antisymm (hF d hd) ?_
  let g : Nat → Option Int := fun d => if d < n ∧ lay ⟨⟨F⟩⟩ d < n then some (lay ⟨⟨F⟩⟩ d) else none
  have gs : ∀ {d y}, g d = some y → d < n ∧ lay ⟨⟨F⟩⟩ d = y ∧ y < n := fun {d y} e => by
    by_cases c : d < n ∧ lay ⟨⟨F⟩⟩ d < n
    · rw [show g d = some (lay ⟨⟨F⟩⟩ d) from if_pos c] at e
      cases e
      exact ⟨c.1, rfl, c.2⟩
    · rw [show g d = none from if_neg c] at e
      cases e
  have hg : Val ss n (fun _ => 0) g := ⟨fun s hs h hh y hy => by
    obtain ⟨a, b, c⟩ := gs hy
    have k := hst s hs h a hh
    have sp : 0 ≤ s.step := by rcases step_cases s with ⟨_, e⟩ | ⟨_, e⟩ <;> omega
    rcases lstN_at (n := n) F s with e | ⟨l, l1, l2, l3⟩
    · omega
    · refine ⟨l, l2, lay ⟨⟨F⟩⟩ l, if_pos ⟨l1, by omega⟩, by omega⟩, fun d hd y hy => by rw [← (gs hy).2.1]; exact h0 d hd⟩
  rw [lay_toldN L hd]
  by_cases c : lay ⟨⟨F⟩⟩ d < n
  · obtain ⟨m1, m2⟩ := C.m g hg d hd _ (show g d = some (lay ⟨⟨F⟩⟩ d) from if_pos ⟨hd, c⟩)
    cases h : lk L d with
    | none => obtain ⟨v, e, _⟩ := m2 h; cases e
    | some x => exact m1 x h
  · cases h : lk L d with
    | none => show (n : Int) ≤ _; omega
    | some x => have := (C.lt_n h).2; show x ≤ _; omega
/-- layers, n among them, that satisfy all sayings -/
structure BS (ss : List SN) (n : Nat) (G : List Int) : Prop where
  len : G.length = n
  b : ∀ d, d < n → 0 ≤ lay ⟨⟨G⟩⟩ d ∧ lay ⟨⟨G⟩⟩ d ≤ n
  st : ∀ s ∈ ss, ∀ d, d < n → s.hi.testBit d = true → min (lstN n G s + s.step) n ≤ lay ⟨⟨G⟩⟩ d
/-- the least such -/
structure BL (ss : List SN) (n : Nat) (F : List Int) : Prop where
  s : BS ss n F
  l : ∀ G, BS ss n G → ∀ d, d < n → lay ⟨⟨F⟩⟩ d ≤ lay ⟨⟨G⟩⟩ d
theorem bs_told {ss : List SN} {n : Nat} {L : List (Option Int)} {P : Nat} (C : Clm ss n (fun _ => 0) L P none) (ok : OkL n ss) : BS ss n (toldN n L) :=
  ⟨by unfold toldN; rw [List.length_map, List.length_range], fun d hd => by
    rw [lay_toldN L hd]
    cases h : lk L d with
    | none => exact ⟨by show (0 : Int) ≤ n; omega, Int.le_refl _⟩
    | some x => have := C.lt_n h; exact ⟨this.1, by show x ≤ _; omega⟩, fun s hs d hd hh => by
    have := up1_le C ok (fun _ _ => Int.le_refl _) hs hd
    rw [lay_up1 _ s hd, if_pos hh] at this
    exact (Int.max_le.mp this).2⟩
theorem BL.told {ss : List SN} {n : Nat} {F : List Int} (B : BL ss n F) (ok : OkL n ss) {L : List (Option Int)} {P : Nat} (C : Clm ss n (fun _ => 0) L P none) : F = toldN n L :=
  stable_told C ok B.s.len (fun d hd => (B.s.b d hd).1) (B.l _ (bs_told C ok)) B.s.st
theorem rng0 (n : Nat) : rngL 0 ((n : Int)).toNat = (List.range n).map Int.ofNat := by
  unfold rngL
  rw [Int.toNat_natCast]
  exact List.map_congr_left fun i _ => by show (0 : Int) + (i : Int) = _; rw [Int.zero_add]; rfl
theorem rng0_len (n : Nat) : (rngL 0 ((n : Int)).toNat).length = n := by rw [rng0, List.length_map, List.length_range]
end TW
set_option Elab.async false
set_option maxRecDepth 100000
set_option maxHeartbeats 1000000
set_option linter.all false
set_option autoImplicit false
/-! all orders without gaps -/
namespace TW
open Pa (rep)
open PaL (repL)
open PySem PySem.Spec PyProof.Rows L2 My
theorem srt_add {s : List Int} (h : s.Pairwise (· < ·)) : ∀ (k i : Nat) (hk : i + k < s.length), s[i]'(by omega) + k ≤ s[i + k]
  | 0, i, hk => by simp
  | k + 1, i, hk => by
    have a := srt_add h k i (by omega)
    have b := List.pairwise_iff_getElem.mp h (i + k) (i + (k + 1)) (by omega) hk (by omega)
    have b : s[i + k]'(by omega) < s[i + (k + 1)] := b
    omega
theorem ddup_srt (l : List Int) : (ddup l).length = (srtU l).length := by unfold srtU; rw [List.length_mergeSort]
theorem full_iff {l : List Int} (h : l ≠ []) (h0 : ∀ x ∈ l, 0 ≤ x) : ((ddup l).length : Int) = maxL l + 1 ↔ Full l := by
  have mm := maxL_mem h
  have ml : ∀ x ∈ l, x ≤ maxL l := fun x hx => le_maxL hx
  have m0 := h0 _ mm
  rw [ddup_srt]
  constructor
  · intro e
    refine ⟨(maxL l).toNat, fun x => ⟨fun hx => ⟨h0 x hx, by have := ml x hx; omega⟩, fun ⟨x0, x1⟩ => ?_⟩⟩
    have hlen : (srtU l).length = (maxL l).toNat + 1 := by omega
    have hk : x.toNat < (srtU l).length := by omega
    have a := srt_add (srtU_lt l) x.toNat 0 (by omega)
    have b := srt_add (srtU_lt l) ((maxL l).toNat - x.toNat) x.toNat (by omega)
    have c : (srtU l)[0]'(by omega) ∈ l := (srtU_mem l _).mp (List.getElem_mem _)
    have d : (srtU l)[x.toNat + ((maxL l).toNat - x.toNat)]'(by omega) ∈ l := (srtU_mem l _).mp (List.getElem_mem _)
    have c := h0 _ c
    have d := ml _ d
    have e1 : (srtU l)[0 + x.toNat]'(by omega) = (srtU l)[x.toNat] := by congr 1; omega
    have : (srtU l)[x.toNat] = x := by omega
    rw [← this]
    exact (srtU_mem l _).mp (List.getElem_mem _)
  · rintro ⟨m, hm⟩
    have := srt_full (f := id) (l := l) (fun _ _ _ _ h => h) m hm
    rw [List.map_id] at this
    rw [this, List.length_map, List.length_range]
    have e1 := (hm _).mp mm
    have e2 := ml m ((hm m).mpr ⟨by omega, Int.le_refl _⟩)
    omega
/-- the digits of a number -/
def digs (n k c : Nat) : List Int := (List.range k).map fun i => ((c / n ^ i % n : Nat) : Int)
def codeOf (n : Nat) : List Int → Nat
  | [] => 0
  | x :: xs => x.toNat + n * codeOf n xs
theorem digs_succ (n k c : Nat) : digs n (k + 1) c = ((c % n : Nat) : Int) :: digs n k (c / n) := by
  unfold digs
  rw [List.range_succ_eq_map, List.map_cons, List.map_map]
  congr 1
  · simp
  · refine List.map_congr_left fun i _ => ?_
    show ((c / n ^ (i + 1) % n : Nat) : Int) = _
    rw [Nat.pow_succ, Nat.mul_comm, Nat.div_div_eq_div_mul]
theorem digs_code {n : Nat} (hn : 0 < n) : ∀ (l : List Int), (∀ x ∈ l, 0 ≤ x ∧ x < n) → digs n l.length (codeOf n l) = l ∧ codeOf n l < n ^ l.length
  | [], _ => ⟨rfl, Nat.one_pos⟩
  | x :: xs, h => by
    obtain ⟨a, b⟩ := digs_code hn xs fun y hy => h y (List.mem_cons_of_mem _ hy)
    obtain ⟨x0, x1⟩ := h x (List.mem_cons_self ..)
    have hx : x.toNat < n := by omega
    have e1 : codeOf n (x :: xs) % n = x.toNat := by
      show (x.toNat + n * codeOf n xs) % n = _
      rw [Nat.add_mul_mod_self_left, Nat.mod_eq_of_lt hx]
    have e2 : codeOf n (x :: xs) / n = codeOf n xs := by
      show (x.toNat + n * codeOf n xs) / n = _
      rw [Nat.add_mul_div_left _ _ hn, Nat.div_eq_of_lt hx, Nat.zero_add]
    refine ⟨?_, ?_⟩
    · rw [List.length_cons, digs_succ, e1, e2, a]
      congr 1
      omega
    · rw [List.length_cons, Nat.pow_succ]
      show x.toNat + n * codeOf n xs < _
      have : n * (codeOf n xs + 1) ≤ n * n ^ xs.length := Nat.mul_le_mul_left n b
      rw [Nat.mul_add, Nat.mul_one] at this
      rw [Nat.mul_comm (n ^ xs.length)]
      omega
theorem digs_mem {n k c : Nat} (hn : 0 < n) : (digs n k c).length = k ∧ ∀ x ∈ digs n k c, 0 ≤ x ∧ x < n := by
  unfold digs
  refine ⟨by rw [List.length_map, List.length_range], fun x hx => ?_⟩
  obtain ⟨i, _, rfl⟩ := List.mem_map.mp hx
  have := Nat.mod_lt (c / n ^ i) hn
  omega
def gapless (l : List Int) : Bool := pyEq ((ddup l).length : Int) (maxL l + 1)
def ordsN (n : Nat) : List (List Int) := ((List.range (n ^ n)).map (digs n n)).filter gapless
theorem mem_ordsN {n : Nat} (hn : 0 < n) {l : List Int} : l ∈ ordsN n ↔ l.length = n ∧ (∀ x ∈ l, 0 ≤ x ∧ x < n) ∧ Full l := by
  unfold ordsN
  rw [List.mem_filter]
  constructor
  · rintro ⟨h1, h2⟩
    obtain ⟨c, _, rfl⟩ := List.mem_map.mp h1
    obtain ⟨a, b⟩ := digs_mem (n := n) (k := n) (c := c) hn
    refine ⟨a, b, (full_iff (fun z => by rw [z] at a; simp at a; omega) fun x hx => (b x hx).1).mp ?_⟩
    unfold gapless at h2
    rw [pyEq_ii] at h2
    exact of_decide_eq_true h2
  · rintro ⟨h1, h2, h3⟩
    obtain ⟨a, b⟩ := digs_code hn l h2
    rw [h1] at a b
    refine ⟨List.mem_map.mpr ⟨_, List.mem_range.mpr b, a⟩, ?_⟩
    unfold gapless
    rw [pyEq_ii]
    exact decide_eq_true ((full_iff (fun z => by rw [z] at h1; simp at h1; omega) fun x hx => (h2 x hx).1).mpr h3)
end TW
set_option Elab.async false
set_option maxRecDepth 100000
set_option maxHeartbeats 1000000
set_option linter.all false
set_option autoImplicit false
/-! draws: sayings about two days -/
namespace TW
open Pa (rep)
open PaL (repL)
open PySem PySem.Spec PyProof.Rows L2 My
end TW
set_option Elab.async false
set_option maxRecDepth 100000
set_option maxHeartbeats 1000000
set_option linter.all false
set_option autoImplicit false
/-! lifting as the laws ask it -/
namespace TW
open Pa (rep)
open PaL (repL)
open PySem PySem.Spec PyProof.Rows L2 My
theorem pyEq_f {a b : Int} (h : a ≠ b) : pyEq a b = false := by rw [pyEq_ii]; exact decide_eq_false h
theorem pyEq_t (a : Int) : pyEq a a = true := by rw [pyEq_ii]; exact decide_eq_true rfl
/-- whether a least order is found -/
theorem Told2.left {ss : List SN} {n : Nat} {r : Sm2 Lifted Stuck} {L : List (Option Int)} {P : Nat} (T : Told2 ss n r L P) (hn : Dc n) (ok : OkL n ss) :
    (∃ x lo, r = .a x ∧ x.order = ⟨⟨lo⟩⟩ ∧ L = lo.map some ∧ Lay lo ∧ lo.length = n ∧ Full lo ∧ (∀ s ∈ ss, s.kept ⟨⟨lo⟩⟩ = true) ∧ (∀ d, d < n → lk L d = some (lay ⟨⟨lo⟩⟩ d)) ∧ (∀ d, d < n → 0 ≤ lay ⟨⟨lo⟩⟩ d ∧ lay ⟨⟨lo⟩⟩ d < n) ∧
        ∀ l, Lay l → l.length = n → (∀ s ∈ ss, s.kept ⟨⟨l⟩⟩ = true) → leL lo l = true) ∨
    (∃ x, r = .b x ∧ (∃ d, d < n ∧ lk L d = none) ∧ ∀ l, Lay l → l.length = n → ¬ ∀ s ∈ ss, s.kept ⟨⟨l⟩⟩ = true) := by
  by_cases hall : ∀ d, d < n → ∃ y, lk L d = some y
  · obtain ⟨x, lo, e1, e2, e3, e4, e5⟩ := T.t.a hall
    have hlk : ∀ d, d < n → lk L d = some (lay ⟨⟨lo⟩⟩ d) := fun d hd => by
      rw [e3]
      unfold lk lay
      rw [List.getElem?_map, List.getElem?_eq_getElem (by omega)]
      rfl
    have kept : ∀ s ∈ ss, s.kept ⟨⟨lo⟩⟩ = true := fun s hs => (sat_kept e4.le (e5.symm ▸ ok s hs)).mp fun h hh y hy => by
      obtain ⟨a, b⟩ := ordF_some hy
      obtain ⟨l, l1, x, l2, l3⟩ := T.t.c.sa s hs h hh y (by rw [hlk h (by omega), b])
      have hln : l < n := bit_lt (ok s hs).lo l1
      rw [hlk l hln] at l2
      cases l2
      exact ⟨l, l1, _, ordF_lay (by omega), l3⟩
    obtain ⟨x', lo', q1, q2, q3, q4, q5, q6, q7⟩ := told_of T.t hn ok e4 e5 kept
    have q7 : Full lo' ∧ _ := ⟨q6, q7⟩
    have : x' = x := by rw [e1] at q1; cases q1; rfl
    subst this
    have : lo' = lo := by
      have := q2.symm.trans e2
      cases this
      rfl
    subst this
    refine .inl ⟨x', lo', e1, e2, e3, e4, e5, q7.1, kept, hlk, fun d hd => T.t.c.lt_n (hlk d hd), ?_⟩
    exact q7.2
  · refine .inr ?_
    obtain ⟨x, e⟩ := T.t.b hall
    refine ⟨x, e, ?_, fun l hl hn' hk => ?_⟩
    · refine Classical.byContradiction fun z => hall fun d hd => ?_
      cases h : lk L d with
      | some y => exact ⟨y, rfl⟩
      | none => exact (z ⟨d, hd, h⟩).elim
    · obtain ⟨x', lo', q1, _⟩ := told_of T.t hn ok hl hn' hk
      rw [e] at q1
      cases q1
end TW
set_option Elab.async false
set_option maxRecDepth 100000
set_option maxHeartbeats 1000000
set_option linter.all false
set_option autoImplicit false
/-! k16's questions -/
namespace TW
open Pa (rep)
open PaL (repL)
open PySem PySem.Spec PyProof.Rows L2 My
theorem sum_bits (p : Nat → Bool) : ∀ n : Nat, (((List.range n).filter p).map fun d : Nat => ((2 ^ d : Nat) : Int)).sum = ((setN ((List.range n).filter p) : Nat) : Int)
  | 0 => rfl
  | n + 1 => by
    rw [List.range_succ, List.filter_append, List.map_append, List.sum_append, sum_bits p n]
    have e : ∀ ds es : List Nat, setN (ds ++ es) = es.foldl (fun m d => m ||| 2 ^ d) (setN ds) := fun ds es => by unfold setN; rw [List.foldl_append]
    rw [e]
    have lt := setN_lt16 n ((List.range n).filter p) fun d hd => List.mem_range.mp (List.mem_filter.mp hd).1
    by_cases h : p n = true
    · rw [List.filter_cons, if_pos h]
      show ((setN _ : Nat) : Int) + (((2 ^ n : Nat) : Int) + 0) = ((setN ((List.range n).filter p) ||| 2 ^ n : Nat) : Int)
      have := Nat.two_pow_add_eq_or_of_lt lt 1
      rw [Nat.mul_one, Nat.or_comm] at this
      rw [← this]
      omega
    · rw [List.filter_cons, if_neg h]
      show ((setN _ : Nat) : Int) + 0 = _
      simp
theorem ord_lay {n : Nat} (hn : Dc n) {l : List Int} (h : l ∈ ordsN n) : Lay l ∧ l.length = n ∧ Full l := by
  obtain ⟨h1, h2, h3⟩ := (mem_ordsN hn.pos).mp h
  refine ⟨⟨by rw [h1]; exact hn, fun x hx => ?_, ?_⟩, h1, h3⟩
  · have := h2 x hx; have := hn.le; omega
  · obtain ⟨m, hm⟩ := h3
    exact (hm 0).mpr ⟨Int.le_refl _, by omega⟩
/-- growing numbers -/
structure Grow (g : List Int) (j : Nat) : Prop where
  len : g.length = j + 1
  z : lay ⟨⟨g⟩⟩ 0 = 0
  s : ∀ i, i < j → lay ⟨⟨g⟩⟩ i + 1 ≤ lay ⟨⟨g⟩⟩ (i + 1) ∧ lay ⟨⟨g⟩⟩ (i + 1) ≤ lay ⟨⟨g⟩⟩ i + 2000000
theorem Grow.lt {g : List Int} {j : Nat} (G : Grow g j) : ∀ k i, i + k ≤ j → lay ⟨⟨g⟩⟩ i + k ≤ lay ⟨⟨g⟩⟩ (i + k) ∧ lay ⟨⟨g⟩⟩ (i + k) ≤ lay ⟨⟨g⟩⟩ i + k * 2000000
  | 0, i, _ => by simp
  | k + 1, i, h => by
    obtain ⟨a, b⟩ := G.lt k i (by omega)
    obtain ⟨c, d⟩ := G.s (i + k) (by omega)
    have e : lay ⟨⟨g⟩⟩ (i + (k + 1)) = lay ⟨⟨g⟩⟩ (i + k + 1) := rfl
    rw [e]
    omega
end TW
set_option Elab.async false
set_option maxRecDepth 100000
set_option maxHeartbeats 1000000
set_option linter.all false
set_option autoImplicit false
/-! k18: the sayings that the stuck days rest on leave just these days stuck -/
namespace TW
open Pa (rep)
open PaL (repL)
open PySem PySem.Spec PyProof.Rows L2 My
end TW
set_option Elab.async false
set_option maxRecDepth 100000
set_option maxHeartbeats 1000000
set_option linter.all false
set_option autoImplicit false
/-! k18's questions -/
namespace TW
open Pa (rep)
open PaL (repL)
open PySem PySem.Spec PyProof.Rows L2 My
/-- the reasons and the heights of what was told -/
def Sm2.rs (r : Sm2 Lifted Stuck) : Tup (Option Int) := r.elim (fun o => o.reasons) (fun o => o.reasons)
def Sm2.hs (r : Sm2 Lifted Stuck) : Tup Int := r.elim (fun o => o.heights) (fun o => o.heights)
end TW
set_option Elab.async false
set_option maxRecDepth 100000
set_option maxHeartbeats 1000000
set_option linter.all false
set_option autoImplicit false
/-! k18: the papers of what lift gives -/
namespace TW
open Pa (rep)
open PaL (repL)
open PySem PySem.Spec PyProof.Rows L2 My
/-- the papers, whichever was told -/
structure Papers (ss : List SN) (n : Nat) (r : Sm2 Lifted Stuck) (L : List (Option Int)) (R : List (Option Int)) (H : List Int) : Prop where
  er : r.elim (fun o => o.reasons) (fun o => o.reasons) = ⟨R⟩
  eh : r.elim (fun o => o.heights) (fun o => o.heights) = ⟨H⟩
  l1 : R.length = n
  l2 : H.length = n
  h0 : ∀ h ∈ H, 0 ≤ h
  i : ∀ o ∈ R, ∀ i, o = some i → ∃ j s, i = ((j : Nat) : Int) ∧ ss[j]? = some s
  b : ∀ x, r = .b x → ∃ D : Nat, x.days = (D : Int) ∧ D < 2 ^ n ∧ (∀ d, D.testBit d = true ↔ d < n ∧ lk L d = none) ∧ ∀ d, d < n → (lk L d = none → Why ss R H d (fun l => lk L l = none) (fun l => lk L l = none ∧ hI H l < hI H d)) ∧ ∀ y, lk L d = some y → lk R d = none
theorem Told2.papers {ss : List SN} {n : Nat} {r : Sm2 Lifted Stuck} {L : List (Option Int)} {P : Nat} (T : Told2 ss n r L P) : ∃ R H, Papers ss n r L R H ∧ ∃ rs, CP ss n L rs H none ∧ ∀ d, d < n → lk L d = none → lk R d = lk rs d := by
  obtain ⟨rs, H, q1, q2, K, a, b⟩ := T.pp
  have h0 : ∀ h ∈ H, 0 ≤ h := fun h hm => by
    obtain ⟨d, hd⟩ := List.mem_iff_getElem?.mp hm
    have := K.h0 d
    unfold hI at this
    rw [hd] at this
    exact this
  have src : ∀ d, d < n → ∀ i, lk rs d = some i → ∃ j s, i = ((j : Nat) : Int) ∧ ss[j]? = some s := fun d hd i e => by
    cases hL : lk L d with
    | none =>
      obtain ⟨j, s, e1, e2, _⟩ := K.e rfl d hd hL
      rw [e] at e2
      exact ⟨j, s, Option.some.inj e2, e1⟩
    | some y =>
      have y0 := (T.t.c.lt_n hL).1
      by_cases z : y = 0
      · subst z
        rw [K.z d hL] at e
        cases e
      · obtain ⟨j, s, e1, e2, _⟩ := K.p d y hL (by omega)
        rw [e] at e2
        exact ⟨j, s, Option.some.inj e2, e1⟩
  have at_ : ∀ (R : List (Option Int)) o, R.length = n → o ∈ R → ∃ d, d < n ∧ o = lk R d := fun R o l hm => by
    obtain ⟨d, hd⟩ := List.mem_iff_getElem?.mp hm
    obtain ⟨lt, _⟩ := List.getElem?_eq_some_iff.mp hd
    exact ⟨d, by omega, by unfold lk; rw [hd]; rfl⟩
  cases r with
  | a x =>
    obtain ⟨e1, e2⟩ := a x rfl
    refine ⟨rs, H, ⟨e1, e2, q1, q2, h0, fun o hm i e => ?_, fun _ z => nomatch z⟩, rs, K, fun _ _ _ => rfl⟩
    obtain ⟨d, hd, eo⟩ := at_ rs o q1 hm
    exact src d hd i (eo.symm.trans e)
  | b x =>
    obtain ⟨D, d1, d2, d3, d4, d5, d6⟩ := b x rfl
    refine ⟨x.reasons.l, H, ⟨rfl, d4, d5, q2, h0, fun o hm i e => ?_, fun y z => ?_⟩, rs, K, fun d hd e => by rw [d6 d hd, if_pos e]⟩
    · obtain ⟨d, hd, eo⟩ := at_ _ o d5 hm
      have e' := eo.symm.trans e
      rw [d6 d hd] at e'
      split at e'
      · exact src d hd i e'
      · cases e'
    · cases z
      refine ⟨D, d1, d2, d3, fun d hd => ⟨fun e => (K.e rfl d hd e).mono (by rw [d6 d hd, if_pos e]) rfl (fun _ h => h) fun _ h => h, fun y e => ?_⟩⟩
      rw [d6 d hd, if_neg (by rw [e]; exact nofun)]
end TW
set_option Elab.async false
set_option maxRecDepth 100000
set_option maxHeartbeats 1000000
set_option linter.all false
set_option autoImplicit false
/-! k18: the paper, right -/
namespace TW
open Pa (rep)
open PaL (repL)
open PySem PySem.Spec PyProof.Rows L2 My
end TW
set_option Elab.async false
set_option maxRecDepth 100000
set_option maxHeartbeats 1000000
set_option linter.all false
set_option autoImplicit false
/-! k18: right -/
namespace TW
open Pa (rep)
open PaL (repL)
open PySem PySem.Spec PyProof.Rows L2 My
end TW
set_option Elab.async false
set_option maxRecDepth 100000
set_option maxHeartbeats 1000000
set_option linter.all false
set_option autoImplicit false
/-! k18: the sayings drawn -/
namespace TW
open Pa (rep)
open PaL (repL)
open PySem PySem.Spec PyProof.Rows L2 My
end TW
set_option Elab.async false
set_option maxRecDepth 100000
set_option maxHeartbeats 1000000
set_option linter.all false
set_option autoImplicit false
/-! k18: all that is drawn -/
namespace TW
open Pa (rep)
open PaL (repL)
open PySem PySem.Spec PyProof.Rows L2 My
end TW
set_option Elab.async false
set_option maxRecDepth 100000
set_option maxHeartbeats 2000000
set_option linter.all false
set_option autoImplicit false
/-! k18: the law -/
namespace TW
open Pa (rep)
open PaL (repL)
open PySem PySem.Spec PyProof.Rows L2 My
end TW
set_option Elab.async false
set_option maxRecDepth 100000
set_option maxHeartbeats 1000000
set_option linter.all false
set_option autoImplicit false
/-! k17: ring, papers, the same least order -/
namespace TW
open Pa (rep)
open PaL (repL)
open PySem PySem.Spec PyProof.Rows L2 My
end TW
set_option Elab.async false
set_option maxRecDepth 100000
set_option maxHeartbeats 1000000
set_option linter.all false
set_option autoImplicit false
/-! the books of tell and its neighbours: what is drawn -/
namespace TW
open Pa (rep)
open PaL (repL)
open PySem PySem.Spec PyProof.Rows L2 My
section
variable {α β γ S L : Type}
theorem Gv.app {f : α → List β → W (Res (List β) γ (List β))} (e : α → β) {xs : List α} (hz : xs.length ≤ sizeLine) (h : ∀ x ∈ xs, ∀ s : List β, s.length < sizeLine → Gv (f x s) (.nx (s ++ [e x]))) : Gv (forW (L := L) f xs []) (.nx (xs.map e)) := by
  refine Rn.gv ((Rn.forL (I := fun j v => v = (xs.take j).map e) rfl fun j x v hx hv => ?_).mono fun r ⟨s, q1, q2⟩ => ?_)
  · subst hv
    have hj := (List.getElem?_eq_some_iff.mp hx).1
    refine (h x (List.mem_of_getElem? hx) _ (by rw [List.length_map, List.length_take]; omega)).rn ⟨_, rfl, ?_⟩
    rw [List.take_succ, hx, List.map_append]
    rfl
  · rw [q1, q2, List.take_length]
theorem Rn.app {f : α → List β → W (Res (List β) γ (List β))} {T : β → Prop} {xs : List α} (hz : xs.length ≤ sizeLine) (h : ∀ x ∈ xs, ∀ s : List β, s.length < sizeLine → Rn (f x s) fun r => ∃ y, r = .nx (s ++ [y]) ∧ T y) : Rn (forW (L := L) f xs []) fun r => ∃ v : List β, r = .nx v ∧ v.length = xs.length ∧ ∀ y ∈ v, T y := by
  refine (Rn.forL (I := fun j v => v.length = j ∧ ∀ y ∈ v, T y) ⟨rfl, fun _ z => absurd z List.not_mem_nil⟩ fun j x v hx hv => ?_).mono fun r ⟨s, q1, q2, q3⟩ => ⟨s, q1, q2, q3⟩
  have hj := (List.getElem?_eq_some_iff.mp hx).1
  refine (h x (List.mem_of_getElem? hx) v (by omega)).mono fun r ⟨y, e, t⟩ => ⟨_, e, by simp [hv.1], fun z hz => ?_⟩
  rcases List.mem_append.mp hz with z1 | z1
  · exact hv.2 z z1
  · rw [List.mem_singleton.mp z1]; exact t
end
/-- the days at a layer -/
def atLay (l : List Int) (v : Int) : Nat := setN ((List.range l.length).filter fun d => decide (lay ⟨⟨l⟩⟩ d = v))
/-- the day sets of equal layer, from the lowest up -/
def lvOf (l : List Int) : List Int := (srtU l).map fun v => ((atLay l v : Nat) : Int)
end TW
set_option Elab.async false
set_option maxRecDepth 100000
set_option maxHeartbeats 1000000
set_option linter.all false
set_option autoImplicit false
/-! drawn sayings, books -/
namespace TW
open Pa (rep)
open PaL (repL)
open PySem PySem.Spec PyProof.Rows L2 My
/-- a whole number that is a day set of n days -/
def DSn (n : Nat) (x : Int) : Prop := ∃ m : Nat, x = (m : Int) ∧ m < 2 ^ n
theorem DSn.and {n : Nat} {x y : Int} (h : DSn n x) (k : ∃ m : Nat, y = (m : Int)) : DSn n (Builtin.bitAnd x y) := by
  obtain ⟨a, rfl, ha⟩ := h
  obtain ⟨b, rfl⟩ := k
  exact ⟨a &&& b, bitAnd_nat a b, Nat.lt_of_le_of_lt Nat.and_le_left ha⟩
theorem DSn.or {n : Nat} {x y : Int} (h : DSn n x) (k : DSn n y) : DSn n (Builtin.bitOr x y) := by
  obtain ⟨a, rfl, ha⟩ := h
  obtain ⟨b, rfl, hb⟩ := k
  exact ⟨a ||| b, bitOr_nat a b, Nat.or_lt_two_pow ha hb⟩
theorem DSn.not {n : Nat} {x y : Int} (h : DSn n x) (k : ∃ m : Nat, y = (m : Int)) : DSn n (Builtin.bitAnd x (Builtin.bitNot y)) := by
  obtain ⟨a, rfl, ha⟩ := h
  obtain ⟨b, rfl⟩ := k
  refine ⟨(SN.mk a b true).b, bitAnd_notnat a b, ?_⟩
  have := (SN.mk a b true).cb
  show _ < 2 ^ n
  have : (SN.mk a b true).w = a := rfl
  omega
end TW
set_option Elab.async false
set_option maxRecDepth 100000
set_option maxHeartbeats 1000000
set_option linter.all false
set_option autoImplicit false
/-! books with drawn names -/
namespace TW
open Pa (rep)
open PaL (repL)
open PySem PySem.Spec PyProof.Rows L2 My
end TW
set_option Elab.async false
set_option maxRecDepth 100000
set_option maxHeartbeats 1000000
set_option linter.all false
set_option autoImplicit false
/-! orders by their levels -/
namespace TW
open Pa (rep)
open PaL (repL)
open PySem PySem.Spec PyProof.Rows L2 My
def lvF (l : List Int) : List Int := (List.range ((maxL l).toNat + 1)).map fun v : Nat => ((atLay l (v : Int) : Nat) : Int)
theorem full_max {l : List Int} (h : Full l) (ne : l ≠ []) : ∀ x : Int, x ∈ l ↔ 0 ≤ x ∧ x ≤ ((maxL l).toNat : Int) := by
  obtain ⟨m, hm⟩ := h
  have h1 := (hm _).mp (maxL_mem ne)
  have h2 := le_maxL ((hm m).mpr ⟨by omega, Int.le_refl _⟩)
  intro x
  rw [hm x]
  omega
theorem lvOf_full {l : List Int} (h : Full l) (ne : l ≠ []) : lvOf l = lvF l := by
  have hm := full_max h ne
  have := srt_full (f := fun x => x) (l := l) (fun x _ y _ h => h) _ hm
  rw [List.map_id'] at this
  unfold lvOf lvF
  rw [this, List.map_map]
  rfl
/-! ### the normal days -/
end TW
set_option Elab.async false
set_option maxRecDepth 100000
set_option maxHeartbeats 1000000
set_option linter.all false
set_option autoImplicit false
/-! all orders by their levels -/
namespace TW
open Pa (rep)
open PaL (repL)
open PySem PySem.Spec PyProof.Rows L2 My
end TW
set_option Elab.async false
set_option maxRecDepth 100000
set_option maxHeartbeats 1000000
set_option linter.all false
set_option autoImplicit false
/-! all orders, gone through -/
namespace TW
open Pa (rep)
open PaL (repL)
open PySem PySem.Spec PyProof.Rows L2 My
end TW
set_option Elab.async false
set_option maxRecDepth 100000
set_option maxHeartbeats 1000000
set_option linter.all false
set_option autoImplicit false
/-! the layers of levels; the least of some orders; the law's own lifting -/
namespace TW
open Pa (rep)
open PaL (repL)
open PySem PySem.Spec PyProof.Rows L2 My
end TW
set_option Elab.async false
set_option maxRecDepth 100000
set_option maxHeartbeats 1000000
set_option linter.all false
set_option autoImplicit false
/-! the least of some orders; the law's own lifting -/
namespace TW
open Pa (rep)
open PaL (repL)
open PySem PySem.Spec PyProof.Rows L2 My
end TW
set_option Elab.async false
set_option maxRecDepth 100000
set_option maxHeartbeats 1000000
set_option linter.all false
set_option autoImplicit false
/-! papers, by the law's own walk -/
namespace TW
open Pa (rep)
open PaL (repL)
open PySem PySem.Spec PyProof.Rows L2 My
end TW
set_option Elab.async false
set_option maxRecDepth 100000
set_option maxHeartbeats 1000000
set_option linter.all false
set_option autoImplicit false
/-! tell, standing -/
namespace TW
open Pa (rep)
open PaL (repL)
open PySem PySem.Spec PyProof.Rows L2 My
/-- no order keeps all -/
def NoOrd (ss : List SN) (n : Nat) : Prop := ∀ l, Lay l → l.length = n → ¬ ∀ s ∈ ss, s.kept ⟨⟨l⟩⟩ = true
structure LeastO (ss : List SN) (n : Nat) (lo : List Int) : Prop where
  ly : Lay lo
  hl : lo.length = n
  hf : Full lo
  hk : ∀ s ∈ ss, s.kept ⟨⟨lo⟩⟩ = true
  hb : ∀ d, d < n → 0 ≤ lay ⟨⟨lo⟩⟩ d ∧ lay ⟨⟨lo⟩⟩ d < n
  le : ∀ l, Lay l → l.length = n → (∀ s ∈ ss, s.kept ⟨⟨l⟩⟩ = true) → leL lo l = true
/-- how a saying stands -/
inductive Stnd (ss : List SN) (s : SN) (n : Nat) : Str → Prop
  | all : NoOrd ss n → Stnd ss s n "all"
  | told : (∃ lo, LeastO ss n lo) → NoOrd (ss ++ [s.co]) n → Stnd ss s n "told"
  | barred : (∃ lo, LeastO (ss ++ [s.co]) n lo) → NoOrd (ss ++ [s]) n → Stnd ss s n "barred"
  | opn : (∃ lo, LeastO (ss ++ [s.co]) n lo) → (∃ lo, LeastO (ss ++ [s]) n lo) → Stnd ss s n "open"
end TW
set_option Elab.async false
set_option maxRecDepth 100000
set_option maxHeartbeats 1000000
set_option linter.all false
set_option autoImplicit false
/-! told and word, by all orders -/
namespace TW
open Pa (rep)
open PaL (repL)
open PySem PySem.Spec PyProof.Rows L2 My
section
variable {α β γ S L : Type}
theorem Gv.compM {f : γ → α} {t : α → W Bool} {e : α → W β} {tb : γ → Bool} {eb : γ → β} : ∀ {xs : List γ}, (∀ x ∈ xs, Gv (t (f x)) (tb x)) → (∀ x ∈ xs, tb x = true → Gv (e (f x)) (eb x)) → Gv (compW t e (xs.map f)) ((xs.filter tb).map eb)
  | [], _, _ => Gv.ret
  | x :: xs, ht, he => by
    have ih := Gv.compM (t := t) (e := e) (tb := tb) (eb := eb) (f := f) (xs := xs) (fun y hy => ht y (List.mem_cons_of_mem _ hy)) fun y hy => he y (List.mem_cons_of_mem _ hy)
    refine (ht x List.mem_cons_self).quiet.bind ?_
    cases hb : tb x with
    | true =>
      rw [if_pos rfl, List.filter_cons_of_pos hb]
      exact (he x List.mem_cons_self hb).quiet.bind (ih.bind Gv.ret)
    | false =>
      rw [if_neg Bool.false_ne_true, List.filter_cons_of_neg (by rw [hb]; exact Bool.false_ne_true)]
      exact ih
end
/-- the orders that keep the book, as levels -/
structure Some_ (ss : List SN) (n : Nat) (S : List (List Int)) : Prop where
  m : ∀ l, l ∈ S ↔ l ∈ ordsN n ∧ ∀ s ∈ ss, s.kept ⟨⟨l⟩⟩ = true
  z : S.length ≤ 75
theorem Some_.lv {ss : List SN} {n : Nat} {S : List (List Int)} (h : Some_ ss n S) (hn : Dc n) {l : List Int} (hl : l ∈ S) : Lay l ∧ l.length = n ∧ Full l ∧ lvF l = lvOf l := by
  obtain ⟨q1, q2, q3⟩ := ord_lay hn ((h.m l).mp hl).1
  exact ⟨q1, q2, q3, (lvOf_full q3 (List.ne_nil_of_mem q1.z)).symm⟩
end TW
set_option Elab.async false
set_option maxRecDepth 100000
set_option maxHeartbeats 1000000
set_option linter.all false
set_option autoImplicit false
/-! k23: eight days by papers; the law -/
namespace TW
open Pa (rep)
open PaL (repL)
open PySem PySem.Spec PyProof.Rows L2 My
end TW
set_option Elab.async false
set_option maxRecDepth 100000
set_option maxHeartbeats 8000000
set_option linter.all false
set_option autoImplicit false
/-! programs of plain values -/
namespace TW
open Pa (rep)
open PaL (repL)
open PySem PySem.Spec PyProof.Rows L2 My

end TW
set_option Elab.async false
set_option maxRecDepth 100000
set_option maxHeartbeats 8000000
set_option linter.all false
set_option autoImplicit false
/-! programs of plain values -/
namespace TW
open Pa (rep)
open PaL (repL)
open PySem PySem.Spec PyProof.Rows L2 My

end TW
set_option Elab.async false
set_option maxRecDepth 100000
set_option maxHeartbeats 8000000
set_option linter.all false
set_option autoImplicit false
/-! programs of plain values -/
namespace TW
open Pa (rep)
open PaL (repL)
open PySem PySem.Spec PyProof.Rows L2 My

end TW
set_option Elab.async false
set_option maxRecDepth 100000
set_option maxHeartbeats 1000000
set_option linter.all false
set_option autoImplicit false
/-! k20: the word that is due, by the law's walk -/
namespace TW
open Pa (rep)
open PaL (repL)
open PySem PySem.Spec PyProof.Rows L2 My
section
variable {α β γ S L : Type}
theorem Gv.forAll {f : α → Unit → W (Res Unit β Unit)} {p : α → Bool} {b : β} : ∀ {xs : List α}, (∀ x ∈ xs, Gv (f x ()) (if p x = true then .nx () else .rt b)) → Gv (forW (L := L) f xs ()) (if xs.all p = true then .nx () else .rt b)
  | [], _ => Gv.ret
  | x :: xs, h => by
    have hx := h x List.mem_cons_self
    rw [List.all_cons]
    cases hp : p x with
    | true =>
      rw [hp, if_pos rfl] at hx
      rw [Bool.true_and]
      exact hx.bind (Gv.forAll fun y hy => h y (List.mem_cons_of_mem _ hy))
    | false =>
      rw [hp, if_neg Bool.false_ne_true] at hx
      rw [Bool.false_and, if_neg Bool.false_ne_true]
      exact hx.bind Gv.ret
end
/-- the entry of a day is as the days say -/
def okR (D : Nat) (R : List (Option Int)) (many d : Nat) : Bool := match D.testBit d, lk R d with
  | false, none => true
  | false, some _ => false
  | true, none => false
  | true, some i => decide (0 ≤ i) && decide (i < (many : Int))
end TW
set_option Elab.async false
set_option maxRecDepth 100000
set_option maxHeartbeats 1000000
set_option linter.all false
set_option autoImplicit false
/-! k20: the word that is due (law) -/
namespace TW
open Pa (rep)
open PaL (repL)
open PySem PySem.Spec PyProof.Rows L2 My
/-- the saying that is a day's reason -/
def rS (ss : List SN) (R : List (Option Int)) (d : Nat) : SN := (ss[((lk R d).getD 0).toNat]?).getD ⟨1, 0, false⟩
def LDf (R : List (Option Int)) : List Nat := (List.range R.length).filter fun d => (lk R d).isSome
structure Plg (D : Nat) (R : List (Option Int)) (H : List Int) (ss : List SN) (n : Nat) : Prop where
  l1 : R.length = n
  l2 : H.length = n
  r : ∀ d, d < n → okR D R ss.length d = true
  h0 : ∀ h ∈ H, 0 ≤ h
structure Plc (D : Nat) (R : List (Option Int)) (H : List Int) (ss : List SN) (n : Nat) : Prop extends Plg D R H ss n where
  p : 1 ≤ D
  lt : D < 2 ^ n
section
variable {D n : Nat} {R : List (Option Int)} {H : List Int} {ss : List SN}
theorem Plg.at (P : Plg D R H ss n) {d : Nat} (h : d ∈ LDf R) : d < n ∧ D.testBit d = true ∧ ∃ (j : Nat) (s : SN), lk R d = some (j : Int) ∧ ss[j]? = some s ∧ rS ss R d = s := by
  obtain ⟨hd, hs⟩ := List.mem_filter.mp h
  have hd := List.mem_range.mp hd
  rw [P.l1] at hd
  have ok := P.r d hd
  obtain ⟨i, e⟩ := Option.isSome_iff_exists.mp hs
  unfold okR at ok
  rw [e] at ok
  cases hb : D.testBit d with
  | false => rw [hb] at ok; cases ok
  | true =>
    rw [hb] at ok
    have ok : (decide (0 ≤ i) && decide (i < (ss.length : Int))) = true := ok
    rw [Bool.and_eq_true, decide_eq_true_eq, decide_eq_true_eq] at ok
    obtain ⟨j, rfl⟩ := Int.eq_ofNat_of_zero_le ok.1
    have hj : j < ss.length := by omega
    refine ⟨hd, rfl, j, ss[j], e, List.getElem?_eq_getElem hj, ?_⟩
    unfold rS
    rw [e, Option.getD_some, Int.toNat_natCast, List.getElem?_eq_getElem hj]
    rfl
theorem Plg.mem (P : Plg D R H ss n) {d : Nat} (hd : d < n) : D.testBit d = true ↔ d ∈ LDf R := by
  refine ⟨fun hb => List.mem_filter.mpr ⟨List.mem_range.mpr (by rw [P.l1]; exact hd), ?_⟩, fun h => (P.at h).2.1⟩
  have ok := P.r d hd
  unfold okR at ok
  rw [hb] at ok
  cases e : lk R d with
  | none => rw [e] at ok; cases ok
  | some i => rfl
end
end TW
set_option Elab.async false
set_option maxRecDepth 100000
set_option maxHeartbeats 1000000
set_option linter.all false
set_option autoImplicit false
/-! the program's judge of stuck days -/
namespace TW
open Pa (rep)
open PaL (repL)
open PySem PySem.Spec PyProof.Rows L2 My
section
variable {D n : Nat} {R : List (Option Int)} {H : List Int} {ss : List SN}
end
end TW
set_option Elab.async false
set_option maxRecDepth 100000
set_option maxHeartbeats 1000000
set_option linter.all false
set_option autoImplicit false
/-! right papers: the told one is let, and what is let lies within the told days -/
namespace TW
open Pa (rep)
open PaL (repL)
open PySem PySem.Spec PyProof.Rows L2 My
end TW
set_option Elab.async false
set_option maxRecDepth 100000
set_option maxHeartbeats 1000000
set_option linter.all false
set_option autoImplicit false
/-! k20: what is drawn -/
namespace TW
open Pa (rep)
open PaL (repL)
open PySem PySem.Spec PyProof.Rows L2 My
end TW
set_option Elab.async false
set_option maxRecDepth 100000
set_option maxHeartbeats 1000000
set_option linter.all false
set_option autoImplicit false
/-! k20: drawn papers -/
namespace TW
open Pa (rep)
open PaL (repL)
open PySem PySem.Spec PyProof.Rows L2 My
end TW
set_option Elab.async false
set_option maxRecDepth 100000
set_option maxHeartbeats 1000000
set_option linter.all false
set_option autoImplicit false
/-! k20: the law -/
namespace TW
open Pa (rep)
open PaL (repL)
open PySem PySem.Spec PyProof.Rows L2 My
end TW
set_option Elab.async false
set_option maxRecDepth 100000
set_option maxHeartbeats 1000000
set_option linter.all false
set_option autoImplicit false
/-! k19: the word that is due, by the law's walk -/
namespace TW
open Pa (rep)
open PaL (repL)
open PySem PySem.Spec PyProof.Rows L2 My
end TW
set_option Elab.async false
set_option maxRecDepth 100000
set_option maxHeartbeats 1000000
set_option linter.all false
set_option autoImplicit false
/-! k19: the word that is due (law) -/
namespace TW
open Pa (rep)
open PaL (repL)
open PySem PySem.Spec PyProof.Rows L2 My
end TW
set_option Elab.async false
set_option maxRecDepth 100000
set_option maxHeartbeats 1000000
set_option linter.all false
set_option autoImplicit false
/-! the program's judge of lifted orders -/
namespace TW
open Pa (rep)
open PaL (repL)
open PySem PySem.Spec PyProof.Rows L2 My
section
variable {D n : Nat} {G : List Int} {R : List (Option Int)} {H : List Int} {ss : List SN}
end
end TW
set_option Elab.async false
set_option maxRecDepth 100000
set_option maxHeartbeats 1000000
set_option linter.all false
set_option autoImplicit false
/-! k19: the told paper is let; what is let is the least order -/
namespace TW
open Pa (rep)
open PaL (repL)
open PySem PySem.Spec PyProof.Rows L2 My
end TW
set_option Elab.async false
set_option maxRecDepth 100000
set_option maxHeartbeats 1000000
set_option linter.all false
set_option autoImplicit false
/-! k19: the told paper is let -/
namespace TW
open Pa (rep)
open PaL (repL)
open PySem PySem.Spec PyProof.Rows L2 My
end TW
set_option Elab.async false
set_option maxRecDepth 100000
set_option maxHeartbeats 1000000
set_option linter.all false
set_option autoImplicit false
/-! k19: what is drawn -/
namespace TW
open Pa (rep)
open PaL (repL)
open PySem PySem.Spec PyProof.Rows L2 My
end TW
set_option Elab.async false
set_option maxRecDepth 100000
set_option maxHeartbeats 1000000
set_option linter.all false
set_option autoImplicit false
/-! k19: the law -/
namespace TW
open Pa (rep)
open PaL (repL)
open PySem PySem.Spec PyProof.Rows L2 My
end TW
set_option Elab.async false
set_option maxRecDepth 100000
set_option maxHeartbeats 1000000
set_option linter.all false
set_option autoImplicit false
/-! k22: the least layers, alone of their kind, and how an answer ends -/
namespace TW
open Pa (rep)
open PaL (repL)
open PySem PySem.Spec PyProof.Rows L2 My
noncomputable instance : DecidableEq (T2 Str (Sm2 (Tup Int) Int)) := fun _ _ => Classical.propDecidable _
variable {n : Nat} {ss ts : List SN} {st su : Nat → Int} {f g h : Nat → Option Int} {L : List (Option Int)} {P : Nat}
/-- nowhere above; None is above all -/
def leF (n : Nat) (f g : Nat → Option Int) : Prop := ∀ d, d < n → ∀ y, g d = some y → ∃ x, f d = some x ∧ x ≤ y
theorem Lst.ge (h : Lst ss n st f) (k : Val ss n st g) : leF n f g := h.le g k
theorem leF.anti (h : leF n f g) (k : leF n g f) : ∀ d, d < n → f d = g d := fun d hd => by
  cases e : f d with
  | none =>
    cases e2 : g d with
    | none => rfl
    | some y =>
      obtain ⟨x, ex, _⟩ := h d hd y e2
      rw [e] at ex
      cases ex
  | some x =>
    obtain ⟨y, ey, le⟩ := k d hd x e
    obtain ⟨x', ex, le2⟩ := h d hd y ey
    rw [e] at ex
    obtain rfl := Option.some.inj ex
    rw [ey, show y = x by omega]
theorem Clm.lst (C : Clm ss n st L P none) : Lst ss n st (lk L) := ⟨⟨C.sa, fun d _ y hy => C.sg d y hy⟩, fun g hg d hd y hy => by
  have m := C.m g hg d hd y hy
  cases e : lk L d with
  | none =>
    obtain ⟨v, ev, _⟩ := m.2 e
    cases ev
  | some x => exact ⟨x, rfl, m.1 x e⟩⟩
theorem Lst.uniq (a : Lst ss n st f) (b : Lst ts n su g) (i : Val ss n st g) (j : Val ts n su f) : ∀ d, d < n → f d = g d := leF.anti (a.ge i) (b.ge j)
end TW
set_option Elab.async false
set_option maxRecDepth 100000
set_option maxHeartbeats 1000000
set_option linter.all false
set_option autoImplicit false
/-! k22: what is drawn; lifting from a start -/
namespace TW
open Pa (rep)
open PaL (repL)
open PySem PySem.Spec PyProof.Rows L2 My
variable {n : Nat} {ss ts : List SN} {f g h : Nat → Option Int} {L : List (Option Int)} {P : Nat}
end TW
set_option Elab.async false
set_option maxRecDepth 100000
set_option maxHeartbeats 1000000
set_option linter.all false
set_option autoImplicit false
/-! k22: days renamed -/
namespace TW
open Pa (rep)
open PaL (repL)
open PySem PySem.Spec PyProof.Rows L2 My
variable {n : Nat} {ss ts : List SN} {f g h : Nat → Option Int}
/-- other names for the days -/
structure Ren (n : Nat) (p : Nat → Nat) : Prop where
  lt : ∀ d, d < n → p d < n
  inj : ∀ d e, d < n → e < n → p d = p e → d = e
  sur : ∀ i, i < n → ∃ d, d < n ∧ p d = i
variable {p : Nat → Nat}
end TW
set_option Elab.async false
set_option maxRecDepth 100000
set_option maxHeartbeats 1000000
set_option linter.all false
set_option autoImplicit false
/-! k22: drawn names, books together, days that a book does not have -/
namespace TW
open Pa (rep)
open PaL (repL)
open PySem PySem.Spec PyProof.Rows L2 My
variable {n : Nat} {ss ts : List SN}
theorem erase_perm {α : Type} : ∀ {l : List α} {k : Nat} (h : k < l.length), (l[k] :: l.eraseIdx k).Perm l
  | a :: l, 0, _ => List.Perm.refl _
  | a :: l, k + 1, h => (List.Perm.swap a _ _).trans ((erase_perm (l := l) (k := k) (Nat.lt_of_succ_lt_succ h)).cons a)
def cI (π : List Nat) : List Int := π.map fun d : Nat => (d : Int)
theorem rng_cI (n : Nat) : rngL 0 ((n : Int)).toNat = cI (List.range n) := by
  unfold rngL cI
  rw [Int.toNat_natCast]
  exact List.map_congr_left fun d _ => Int.zero_add _
end TW
set_option Elab.async false
set_option maxRecDepth 100000
set_option maxHeartbeats 1000000
set_option linter.all false
set_option autoImplicit false
/-! k22: books together, days that a book does not have -/
namespace TW
open Pa (rep)
open PaL (repL)
open PySem PySem.Spec PyProof.Rows L2 My
variable {n : Nat} {ss ts : List SN} {f g h : Nat → Option Int}
end TW
set_option Elab.async false
set_option maxRecDepth 100000
set_option maxHeartbeats 1000000
set_option linter.all false
set_option autoImplicit false
/-! k22: days that a book does not have -/
namespace TW
open Pa (rep)
open PaL (repL)
open PySem PySem.Spec PyProof.Rows L2 My
variable {n : Nat} {ss ts : List SN}
end TW
set_option Elab.async false
set_option maxRecDepth 100000
set_option maxHeartbeats 1000000
set_option linter.all false
set_option autoImplicit false
/-! k83: marks with drawn names -/
namespace TW
open Pa (rep)
open PaL (repL)
open PySem PySem.Spec PyProof.Rows L2 My
end TW
set_option Elab.async false
set_option maxRecDepth 100000
set_option maxHeartbeats 1000000
set_option linter.all false
set_option autoImplicit false
/-! k83: sayings by their confirming and breaking days -/
namespace TW
open Pa (rep)
open PaL (repL)
open PySem PySem.Spec PyProof.Rows L2 My
def SN.t8 (s : SN) : T3 Int Int Bool := ⟨(s.c : Int), (s.b : Int), s.u⟩
/-- then within where -/
structure Nf (n : Nat) (s : SN) : Prop where
  ok : s.Ok n
  c : s.c = s.t
def OkF (n : Nat) (ss : List SN) : Prop := ∀ s ∈ ss, Nf n s
theorem OkF.l {n : Nat} {ss : List SN} (h : OkF n ss) : OkL n ss := fun s hs => (h s hs).ok
theorem t8_of {n : Nat} (s : SN) (h0 : 0 < s.w) (hw : s.w < 2 ^ n) : ∃ q : SN, (⟨(s.c : Int), (s.b : Int), s.u⟩ : T3 Int Int Bool) = q.t8 ∧ Nf n q := by
  have e : (SN.mk s.w s.c s.u).c = s.c := by
    show s.w &&& (s.w &&& s.t) = s.w &&& s.t
    rw [← Nat.and_assoc, Nat.and_self]
  have lt : s.c < 2 ^ n := Nat.lt_of_le_of_lt (Nat.and_le_left) hw
  refine ⟨⟨s.w, s.c, s.u⟩, ?_, ⟨h0, hw, lt⟩, e⟩
  show _ = (T3.mk (((SN.mk s.w s.c s.u).c : Nat) : Int) (((s.w ^^^ (SN.mk s.w s.c s.u).c : Nat)) : Int) s.u)
  rw [e]
  rfl
theorem Nf.co {n : Nat} {s : SN} (h : Nf n s) : Nf n s.co := ⟨h.ok.co, h.c⟩
theorem Nf.up {n m : Nat} {s : SN} (h : Nf n s) (k : n ≤ m) : Nf m s := ⟨h.ok.up k, h.c⟩
/-! ### the least layer of a day set -/
end TW
set_option Elab.async false
set_option maxRecDepth 100000
set_option maxHeartbeats 1000000
set_option linter.all false
set_option autoImplicit false
/-! k83: draws of sayings -/
namespace TW
open Pa (rep)
open PaL (repL)
open PySem PySem.Spec PyProof.Rows L2 My
theorem r_ofT (b : Bag) (l : List (Tup Int)) (h : l ≠ []) (hz : l.length ≤ 300) : Rn (w_l_of_BagRTi b ⟨l⟩) fun x => x ∈ l := by
  have hp : 0 < l.length := List.length_pos_iff.mpr h
  unfold w_l_of_BagRTi
  simp only [pb, ba, sq_nx, sq_rt, sq_b, fR_rt, fR_b, fN_nx, fN_b, setW, retW, dropW]
  refine (r_take b _ (by omega) (big8000 (by omega))).bind fun r ⟨h0, h1⟩ => ?_
  obtain ⟨j, rfl⟩ := Int.eq_ofNat_of_zero_le h0
  have hj : j < l.length := by omega
  exact (Gv.get (atI_nat (List.getElem?_eq_getElem hj))).bindR (Rn.ret (List.getElem_mem hj))
/-- a saying as drawn -/
def T8 (n : Nat) (x : T3 Int Int Bool) : Prop := ∃ s : SN, x = s.t8 ∧ Nf n s
theorem T8.of {n w t : Nat} {u : Bool} (h0 : 0 < w) (hw : w < 2 ^ n) : T8 n ⟨Builtin.bitAnd (w : Int) (t : Int), Builtin.bitAnd (w : Int) (Builtin.bitNot (t : Int)), u⟩ := by
  rw [SN.c_eq ⟨w, t, u⟩, SN.b_eq ⟨w, t, u⟩]
  exact t8_of ⟨w, t, u⟩ h0 hw
def Drw8 (n j : Nat) (v : List (T3 Int Int Bool)) : Prop := v.length = j ∧ ∀ x ∈ v, T8 n x
theorem Drw8.ss {n j : Nat} {v : List (T3 Int Int Bool)} (h : Drw8 n j v) : ∃ ss : List SN, v = ss.map SN.t8 ∧ OkF n ss ∧ ss.length = j := by
  obtain ⟨hl, h⟩ := h
  induction v generalizing j with
  | nil => exact ⟨[], rfl, nofun, hl⟩
  | cons x v ih =>
    obtain ⟨ss, e, o, l⟩ := ih rfl fun y hy => h y (List.mem_cons_of_mem _ hy)
    obtain ⟨s, e1, o1⟩ := h x List.mem_cons_self
    refine ⟨s :: ss, by rw [e, e1]; rfl, fun q hq => ?_, by rw [← hl, List.length_cons, l]; rfl⟩
    rcases List.mem_cons.mp hq with z | z
    · rw [z]; exact o1
    · exact o q z
theorem T8.co {n : Nat} {x : T3 Int Int Bool} (h : T8 n x) : ∃ s : SN, x = s.t8 ∧ Nf n s := h
end TW
set_option Elab.async false
set_option maxRecDepth 100000
set_option maxHeartbeats 1000000
set_option linter.all false
set_option autoImplicit false
/-! k83: all orders, what they keep -/
namespace TW
open Pa (rep)
open PaL (repL)
open PySem PySem.Spec PyProof.Rows L2 My
theorem rngN (n : Nat) : rngL 0 ((n : Int)).toNat = (List.range n).map fun d : Nat => (d : Int) := by rw [rng_cI]; rfl
end TW
set_option Elab.async false
set_option maxRecDepth 100000
set_option maxHeartbeats 1000000
set_option linter.all false
set_option autoImplicit false
/-! k83: lots of numbers, as sets of bits -/
namespace TW
open Pa (rep)
open PaL (repL)
open PySem PySem.Spec PyProof.Rows L2 My
variable {n : Nat} {ss : List SN} {l : List Int} {m : Marks}
/-! ### lots -/
def lotN (M : Nat) : List Nat := (List.range 12).filter fun i => M.testBit i
def lotI (M : Nat) : List Int := (lotN M).map fun i : Nat => (i : Int)
theorem mem_lotN {M i : Nat} : i ∈ lotN M ↔ i < 12 ∧ M.testBit i = true := by
  unfold lotN
  rw [List.mem_filter, List.mem_range]
theorem mem_lotI {M : Nat} {x : Int} : x ∈ lotI M ↔ ∃ i : Nat, x = (i : Int) ∧ i < 12 ∧ M.testBit i = true := by
  unfold lotI
  rw [List.mem_map]
  constructor
  · rintro ⟨i, hi, rfl⟩; exact ⟨i, rfl, mem_lotN.mp hi⟩
  · rintro ⟨i, rfl, h⟩; exact ⟨i, mem_lotN.mpr h, rfl⟩
theorem lotN_len (M : Nat) : (lotN M).length ≤ 12 := Nat.le_trans (List.length_filter_le _ _) (by rw [List.length_range]; exact Nat.le_refl _)
theorem lotI_len (M : Nat) : (lotI M).length ≤ 12 := by unfold lotI; rw [List.length_map]; exact lotN_len M
theorem lotI_lt (M : Nat) : (lotI M).Pairwise (· < ·) := by
  unfold lotI lotN
  refine List.pairwise_map.mpr ((List.Pairwise.filter _ List.pairwise_lt_range).imp fun h => ?_)
  show ((_ : Nat) : Int) < ((_ : Nat) : Int)
  omega
end TW
set_option Elab.async false
set_option maxRecDepth 100000
set_option maxHeartbeats 1000000
set_option linter.all false
set_option autoImplicit false
/-! k79: sets of numbers within one another, the kept ones, those that meet -/
namespace TW
open Pa (rep)
open PaL (repL)
open PySem PySem.Spec PyProof.Rows L2 My
/-- within -/
def Sb (N M : Nat) : Prop := N &&& M = N
instance (N M : Nat) : Decidable (Sb N M) := by unfold Sb; infer_instance
theorem sb_iff {N M : Nat} : Sb N M ↔ ∀ i, N.testBit i = true → M.testBit i = true := by
  unfold Sb
  constructor
  · intro h i hi
    rw [← h, Nat.testBit_and, Bool.and_eq_true] at hi
    exact hi.2
  · intro h
    apply Nat.eq_of_testBit_eq
    intro i
    rw [Nat.testBit_and]
    cases e : N.testBit i with
    | false => rfl
    | true => rw [h i e]; rfl
theorem sb_refl (M : Nat) : Sb M M := sb_iff.mpr fun _ h => h
theorem sb_trans {A B C : Nat} (h : Sb A B) (k : Sb B C) : Sb A C := sb_iff.mpr fun i z => sb_iff.mp k i (sb_iff.mp h i z)
theorem sb_anti {A B : Nat} (h : Sb A B) (k : Sb B A) : A = B := by
  apply Nat.eq_of_testBit_eq
  intro i
  rw [Bool.eq_iff_iff]
  exact ⟨sb_iff.mp h i, sb_iff.mp k i⟩
theorem sb_le {A B : Nat} (h : Sb A B) : A ≤ B := by rw [← h]; exact Nat.and_le_right
/-- the kept ones -/
def kp : List Nat → List Nat → List Nat
  | acc, [] => acc
  | acc, M :: Ms => if acc.any (fun N => decide (Sb N M)) = true then kp acc Ms else kp (acc ++ [M]) Ms
theorem kp_sub : ∀ (Ms acc : List Nat), ∃ l, kp acc Ms = acc ++ l ∧ l.Sublist Ms
  | [], acc => ⟨[], by simp [kp], .slnil⟩
  | M :: Ms, acc => by
    unfold kp
    split
    · obtain ⟨l, e, s⟩ := kp_sub Ms acc
      exact ⟨l, e, s.cons _⟩
    · obtain ⟨l, e, s⟩ := kp_sub Ms (acc ++ [M])
      exact ⟨M :: l, by rw [e]; simp, s.cons₂ _⟩
theorem kp_sub0 (Ms : List Nat) : (kp [] Ms).Sublist Ms := by
  obtain ⟨l, e, s⟩ := kp_sub Ms []
  rw [e]; exact s
theorem kp_acc {Ms acc : List Nat} {N : Nat} (h : N ∈ acc) : N ∈ kp acc Ms := by
  obtain ⟨l, e, s⟩ := kp_sub Ms acc
  rw [e]; exact List.mem_append_left _ h
theorem kp_cov : ∀ (Ms acc : List Nat) (M : Nat), M ∈ Ms → ∃ N ∈ kp acc Ms, Sb N M
  | X :: Ms, acc, M, h => by
    unfold kp
    rcases List.mem_cons.mp h with rfl | h
    · split
      · rename_i z
        obtain ⟨N, hn, hs⟩ := List.any_eq_true.mp z
        exact ⟨N, kp_acc hn, of_decide_eq_true hs⟩
      · exact ⟨M, kp_acc (by simp), sb_refl M⟩
    · split
      · exact kp_cov Ms acc M h
      · exact kp_cov Ms _ M h
theorem kp_pw : ∀ (Ms acc : List Nat), acc.Pairwise (fun M N => ¬ Sb M N) → (kp acc Ms).Pairwise (fun M N => ¬ Sb M N)
  | [], acc, h => h
  | M :: Ms, acc, h => by
    unfold kp
    split
    · exact kp_pw Ms acc h
    · rename_i z
      refine kp_pw Ms _ (List.pairwise_append.mpr ⟨h, List.pairwise_singleton _ _, fun a ha b hb => ?_⟩)
      rw [List.mem_singleton.mp hb]
      intro s
      exact z (List.any_eq_true.mpr ⟨a, ha, decide_eq_true s⟩)
theorem mem_kp {Ms : List Nat} (h : Ms.Pairwise fun M N => ¬ Sb N M) (M : Nat) : M ∈ kp [] Ms ↔ M ∈ Ms ∧ ∀ N ∈ Ms, Sb N M → N = M := by
  have p1 := kp_pw Ms [] .nil
  have p2 := h.sublist (kp_sub0 Ms)
  have anti : ∀ A ∈ kp [] Ms, ∀ B ∈ kp [] Ms, Sb A B → A = B := by
    have p3 := p1.and p2
    intro A ha B hb s
    have := (List.pairwise_iff_getElem.mp p3)
    obtain ⟨i, hi, ei⟩ := List.mem_iff_getElem.mp ha
    obtain ⟨j, hj, ej⟩ := List.mem_iff_getElem.mp hb
    rcases Nat.lt_trichotomy i j with l | l | l
    · have := (this i j hi hj l).1
      rw [ei, ej] at this
      exact (this s).elim
    · subst l; rw [← ei, ← ej]
    · have := (this j i hj hi l).2
      rw [ei, ej] at this
      exact (this s).elim
  constructor
  · intro hm
    refine ⟨(kp_sub0 Ms).subset hm, fun N hn s => ?_⟩
    obtain ⟨N0, h0, s0⟩ := kp_cov Ms [] N hn
    have e := anti N0 h0 M hm (sb_trans s0 s)
    subst e
    exact sb_anti s s0
  · rintro ⟨hm, mn⟩
    obtain ⟨N0, h0, s0⟩ := kp_cov Ms [] M hm
    have e := mn N0 ((kp_sub0 Ms).subset h0) s0
    subst e
    exact h0
/-- meets all -/
def hit (Ms : List Nat) (X : Nat) : Prop := ∀ M ∈ Ms, X &&& M ≠ 0
instance (Ms : List Nat) (X : Nat) : Decidable (hit Ms X) := by unfold hit; infer_instance
theorem meet_ne {A B : Nat} : A &&& B ≠ 0 ↔ ∃ i, A.testBit i = true ∧ B.testBit i = true := by
  constructor
  · intro h
    obtain ⟨i, hi⟩ := Nat.exists_testBit_of_ne_zero h
    rw [Nat.testBit_and, Bool.and_eq_true] at hi
    exact ⟨i, hi⟩
  · rintro ⟨i, a, b⟩ e
    have : (A &&& B).testBit i = true := by rw [Nat.testBit_and, a, b]; rfl
    rw [e, Nat.zero_testBit] at this
    cases this
theorem hit_mono {Ms : List Nat} {X Y : Nat} (h : hit Ms X) (s : Sb X Y) : hit Ms Y := fun M hm => by
  obtain ⟨i, a, b⟩ := meet_ne.mp (h M hm)
  exact meet_ne.mpr ⟨i, sb_iff.mp s i a, b⟩
theorem hit_kp {Ms : List Nat} {X : Nat} : hit (kp [] Ms) X ↔ hit Ms X := by
  constructor
  · intro h M hm
    obtain ⟨N, hn, s⟩ := kp_cov Ms [] M hm
    obtain ⟨i, a, b⟩ := meet_ne.mp (h N hn)
    exact meet_ne.mpr ⟨i, a, sb_iff.mp s i b⟩
  · exact fun h M hm => h M ((kp_sub0 Ms).subset hm)
theorem hit_perm {Ms Ns : List Nat} (p : ∀ M, M ∈ Ms ↔ M ∈ Ns) {X : Nat} : hit Ms X ↔ hit Ns X := ⟨fun h M hm => h M ((p M).mpr hm), fun h M hm => h M ((p M).mp hm)⟩
/-- the least ones that meet all -/
def Mn (Ms : List Nat) (M : Nat) : Prop := M < 4096 ∧ hit Ms M ∧ ∀ N, N < 4096 → hit Ms N → Sb N M → N = M
/-! ### one order -/
theorem ext_lt {α : Type} {r : α → α → Prop} (asym : ∀ a b, r a b → r b a → False) {l m : List α} (hl : l.Pairwise r) (hm : m.Pairwise r) (h : ∀ x, x ∈ l ↔ x ∈ m) : l = m := by
  have nd : ∀ {l : List α}, l.Pairwise r → l.Nodup := fun h => h.imp fun {a b} z e => by subst e; exact asym _ _ z z
  exact ((List.perm_ext_iff_of_nodup (nd hl) (nd hm)).mpr (fun a => h a)).eq_of_pairwise (fun a b _ _ h1 h2 => (asym a b h1 h2).elim) hl hm
def ltK (a b : List Int) : Prop := a.length < b.length ∨ (a.length = b.length ∧ a < b)
theorem lt_irr : ∀ (a : List Int), ¬ a < a := fun a => List.lt_irrefl a
theorem ltK_asym (a b : List Int) (h : ltK a b) (k : ltK b a) : False := by
  rcases h with h | ⟨h, h'⟩ <;> rcases k with k | ⟨k, k'⟩
  · omega
  · omega
  · omega
  · exact lt_irr _ (List.lt_trans h' k')
theorem ltK_irr (a : List Int) : ¬ ltK a a := fun h => ltK_asym a a h h
theorem lt_app : ∀ {l l' : List Int} (a b : List Int), l.length = l'.length → l < l' → l ++ a < l' ++ b
  | [], [], _, _, _, h => (lt_irr _ h).elim
  | x :: l, y :: l', a, b, e, h => by
    rw [List.cons_append, List.cons_append]
    rw [List.cons_lt_cons_iff] at h ⊢
    rcases h with h | ⟨h, k⟩
    · exact .inl h
    · exact .inr ⟨h, lt_app a b (by simpa using e) k⟩
theorem lt_app1 : ∀ (l : List Int) {x y : Int}, x < y → l ++ [x] < l ++ [y]
  | [], x, y, h => by
    show [x] < [y]
    rw [List.cons_lt_cons_iff]
    exact .inl h
  | z :: l, x, y, h => by
    rw [List.cons_append, List.cons_append, List.cons_lt_cons_iff]
    exact .inr ⟨rfl, lt_app1 l h⟩
theorem lt_map {f : Int → Int} {k : Int} (hf : ∀ x y, 0 ≤ x → x < y → y < k → f x < f y) : ∀ {l l' : List Int}, l.length = l'.length → (∀ x ∈ l, 0 ≤ x ∧ x < k) → (∀ x ∈ l', 0 ≤ x ∧ x < k) → l < l' → l.map f < l'.map f
  | [], [], _, _, _, h => (lt_irr _ h).elim
  | x :: l, y :: l', e, h1, h2, h => by
    rw [List.map_cons, List.map_cons]
    rw [List.cons_lt_cons_iff] at h ⊢
    rcases h with h | ⟨h, k⟩
    · exact .inl (hf x y (h1 x List.mem_cons_self).1 h (h2 y List.mem_cons_self).2)
    · exact .inr ⟨by rw [h], lt_map hf (by simpa using e) (fun z hz => h1 z (List.mem_cons_of_mem _ hz)) (fun z hz => h2 z (List.mem_cons_of_mem _ hz)) k⟩
end TW
set_option Elab.async false
set_option maxRecDepth 100000
set_option maxHeartbeats 1000000
set_option linter.all false
set_option autoImplicit false
/-! k79: lots as sets, all lots in order -/
namespace TW
open Pa (rep)
open PaL (repL)
open PySem PySem.Spec PyProof.Rows L2 My
def mk9 (l : List Int) : Nat := setN (l.map Int.toNat)
theorem mk9_bit (l : List Int) (h : ∀ x ∈ l, 0 ≤ x ∧ x < 12) (i : Nat) : (mk9 l).testBit i = true ↔ (i : Int) ∈ l := by
  unfold mk9
  rw [setN_bit, decide_eq_true_iff, List.mem_map]
  constructor
  · rintro ⟨x, hx, rfl⟩
    rw [Int.toNat_of_nonneg (h x hx).1]; exact hx
  · exact fun hx => ⟨(i : Int), hx, Int.toNat_natCast i⟩
theorem lt_4096 {M : Nat} (h : ∀ i, M.testBit i = true → i < 12) : M < 4096 := by
  refine Nat.lt_pow_two_of_testBit (n := 12) M fun i hi => ?_
  cases e : M.testBit i with
  | false => rfl
  | true => have := h i e; omega
theorem bit12 {M i : Nat} (h : M < 4096) (hb : M.testBit i = true) : i < 12 := by
  refine Decidable.byContradiction fun k => ?_
  have e : 2 ^ 12 ≤ 2 ^ i := Nat.pow_le_pow_right (by decide) (by omega)
  rw [Nat.testBit_lt_two_pow (Nat.lt_of_lt_of_le h e)] at hb
  cases hb
theorem mk9_lt (l : List Int) (h : ∀ x ∈ l, 0 ≤ x ∧ x < 12) : mk9 l < 4096 := lt_4096 fun i hi => by
  have := h _ ((mk9_bit l h i).mp hi)
  omega
theorem asc_ext {l m : List Int} (hl : l.Pairwise (· < ·)) (hm : m.Pairwise (· < ·)) (h : ∀ x, x ∈ l ↔ x ∈ m) : l = m := ext_lt (fun a b h k => by omega) hl hm h
theorem lot_mk {l : List Int} (hl : l.Pairwise (· < ·)) (h : ∀ x ∈ l, 0 ≤ x ∧ x < 12) : lotI (mk9 l) = l := by
  refine asc_ext (lotI_lt _) hl fun x => ?_
  rw [mem_lotI]
  constructor
  · rintro ⟨i, rfl, _, hb⟩
    exact (mk9_bit l h i).mp hb
  · intro hx
    have := h x hx
    refine ⟨x.toNat, by omega, by omega, (mk9_bit l h _).mpr ?_⟩
    rw [Int.toNat_of_nonneg this.1]; exact hx
theorem lotI_b {M : Nat} : ∀ x ∈ lotI M, 0 ≤ x ∧ x < 12 := fun x hx => by
  obtain ⟨i, rfl, hi, _⟩ := mem_lotI.mp hx
  omega
theorem mem_lot' {M : Nat} (h : M < 4096) {i : Nat} : (i : Int) ∈ lotI M ↔ M.testBit i = true := by
  rw [mem_lotI]
  constructor
  · rintro ⟨j, e, _, hb⟩
    rw [Int.ofNat_inj.mp e]; exact hb
  · exact fun hb => ⟨i, rfl, bit12 h hb, hb⟩
theorem mk_lot {M : Nat} (h : M < 4096) : mk9 (lotI M) = M := by
  apply Nat.eq_of_testBit_eq
  intro i
  rw [Bool.eq_iff_iff, mk9_bit _ lotI_b, mem_lot' h]
theorem lotI_inj {M N : Nat} (hM : M < 4096) (hN : N < 4096) (h : lotI M = lotI N) : M = N := by rw [← mk_lot hM, h, mk_lot hN]
/-- a set within another one has fewer numbers -/
theorem sb_len {N M : Nat} (s : Sb N M) (h : (lotI M).length ≤ (lotI N).length) : lotI N = lotI M := by
  have e : lotN N = (lotN M).filter fun i => N.testBit i := by
    unfold lotN
    rw [List.filter_filter]
    refine List.filter_congr fun i _ => ?_
    cases e : N.testBit i with
    | false => rfl
    | true => rw [sb_iff.mp s i e]; rfl
  have sl : (lotN N).Sublist (lotN M) := by rw [e]; exact List.filter_sublist
  unfold lotI at h ⊢
  rw [List.length_map, List.length_map] at h
  rw [sl.eq_of_length_le h]
theorem pw_sb {Ms : List Nat} (hb : ∀ M ∈ Ms, M < 4096) (h : (Ms.map lotI).Pairwise ltK) : Ms.Pairwise fun M N => ¬ Sb N M := by
  rw [List.pairwise_map] at h
  refine h.imp fun {M N} z s => ?_
  have e := sb_len s (by rcases z with z | z <;> omega)
  rw [e] at z
  exact ltK_irr _ z
/-! ### all lots of k numbers -/
def fbI (l : List Int) : Int := match l.getLast? with | some x => x + 1 | none => 0
def nxtI (k : Int) (L : List (List Int)) : List (List Int) := L.flatMap fun l => (rngL (fbI l) (k - fbI l).toNat).map fun x => l ++ [x]
def lev (k : Int) : Nat → List (List Int)
  | 0 => [[]]
  | j + 1 => nxtI k (lev k j)
def allL (k : Int) : Nat → List (List Int)
  | 0 => [[]]
  | j + 1 => allL k j ++ lev k (j + 1)
theorem mem_rng {lo x : Int} {n : Nat} : x ∈ rngL lo n ↔ lo ≤ x ∧ x < lo + n := by
  unfold rngL
  rw [List.mem_map]
  constructor
  · rintro ⟨i, hi, rfl⟩
    have := List.mem_range.mp hi
    omega
  · intro h
    exact ⟨(x - lo).toNat, List.mem_range.mpr (by omega), by omega⟩
theorem rng_pw (lo : Int) (n : Nat) : (rngL lo n).Pairwise (· < ·) := by
  unfold rngL
  exact List.pairwise_map.mpr (List.pairwise_lt_range.imp fun h => by omega)
def Asc (k : Int) (l : List Int) : Prop := l.Pairwise (· < ·) ∧ ∀ x ∈ l, 0 ≤ x ∧ x < k
theorem fbI_app (l : List Int) (x : Int) : fbI (l ++ [x]) = x + 1 := by unfold fbI; rw [List.getLast?_concat]
theorem as_snoc {k : Int} {l : List Int} {x : Int} : Asc k (l ++ [x]) ↔ Asc k l ∧ fbI l ≤ x ∧ 0 ≤ x ∧ x < k := by
  have key : Asc k l → (fbI l ≤ x ∧ 0 ≤ x ↔ (∀ y ∈ l, y < x) ∧ 0 ≤ x) := by
    intro h
    rcases List.eq_nil_or_concat l with rfl | ⟨m, z, e⟩
    · simp [fbI]
    · rw [List.concat_eq_append] at e
      subst e
      rw [fbI_app]
      constructor
      · rintro ⟨h1, h2⟩
        refine ⟨fun y hy => ?_, h2⟩
        rcases List.mem_append.mp hy with hy | hy
        · have := (List.pairwise_append.mp h.1).2.2 y hy z (by simp)
          omega
        · rw [List.mem_singleton.mp hy]; omega
      · rintro ⟨h1, h2⟩
        have := h1 z (by simp)
        exact ⟨by omega, h2⟩
  constructor
  · rintro ⟨p, b⟩
    have p' := List.pairwise_append.mp p
    have hl : Asc k l := ⟨p'.1, fun y hy => b y (List.mem_append_left _ hy)⟩
    have bx := b x (by simp)
    have := (key hl).mpr ⟨fun y hy => p'.2.2 y hy x (by simp), bx.1⟩
    exact ⟨hl, this.1, bx⟩
  · rintro ⟨hl, h1, h2, h3⟩
    have := (key hl).mp ⟨h1, h2⟩
    refine ⟨List.pairwise_append.mpr ⟨hl.1, List.pairwise_singleton _ _, fun a ha b hb => ?_⟩, fun y hy => ?_⟩
    · rw [List.mem_singleton.mp hb]; exact this.1 a ha
    · rcases List.mem_append.mp hy with hy | hy
      · exact hl.2 y hy
      · rw [List.mem_singleton.mp hy]; exact ⟨h2, h3⟩
theorem fb_nn {k : Int} {l : List Int} (h : Asc k l) : 0 ≤ fbI l := by
  rcases List.eq_nil_or_concat l with rfl | ⟨m, z, e⟩
  · exact Int.le_refl _
  · rw [List.concat_eq_append] at e
    subst e
    rw [fbI_app]
    have := h.2 z (by simp)
    omega
theorem mem_lev {k : Int} : ∀ (j : Nat) (l : List Int), l ∈ lev k j ↔ l.length = j ∧ Asc k l
  | 0, l => by
    unfold lev
    rw [List.mem_singleton]
    constructor
    · rintro rfl; exact ⟨rfl, .nil, fun x h => by simp at h⟩
    · exact fun h => List.length_eq_zero_iff.mp h.1
  | j + 1, l => by
    unfold lev nxtI
    rw [List.mem_flatMap]
    constructor
    · rintro ⟨m, hm, h⟩
      obtain ⟨x, hx, rfl⟩ := List.mem_map.mp h
      obtain ⟨e, a⟩ := (mem_lev j m).mp hm
      have := mem_rng.mp hx
      have nn := fb_nn a
      exact ⟨by simp [e], as_snoc.mpr ⟨a, this.1, by omega, by omega⟩⟩
    · rintro ⟨e, a⟩
      rcases List.eq_nil_or_concat l with rfl | ⟨m, x, e2⟩
      · simp at e
      · rw [List.concat_eq_append] at e2
        subst e2
        obtain ⟨a1, a2, a3, a4⟩ := as_snoc.mp a
        exact ⟨m, (mem_lev j m).mpr ⟨by simpa using e, a1⟩, List.mem_map.mpr ⟨x, mem_rng.mpr ⟨a2, by omega⟩, rfl⟩⟩
theorem lev_pw {k : Int} : ∀ j : Nat, (lev k j).Pairwise (· < ·)
  | 0 => List.pairwise_singleton _ _
  | j + 1 => by
    unfold lev nxtI
    refine List.pairwise_flatMap.mpr ⟨fun l _ => List.pairwise_map.mpr ((rng_pw _ _).imp fun h => lt_app1 l h), ?_⟩
    refine (List.Pairwise.and_mem.mp (lev_pw (k := k) j)).imp fun {l l'} ⟨h1, h2, h⟩ => fun x hx y hy => ?_
    obtain ⟨a, _, rfl⟩ := List.mem_map.mp hx
    obtain ⟨b, _, rfl⟩ := List.mem_map.mp hy
    exact lt_app _ _ (by rw [((mem_lev j l).mp h1).1, ((mem_lev j l').mp h2).1]) h
theorem mem_all {k : Int} : ∀ (j : Nat) (l : List Int), l ∈ allL k j ↔ l.length ≤ j ∧ Asc k l
  | 0, l => by
    have := mem_lev (k := k) 0 l
    unfold lev at this
    unfold allL
    rw [this, Nat.le_zero]
  | j + 1, l => by
    unfold allL
    rw [List.mem_append, mem_all j l, mem_lev]
    constructor
    · rintro (⟨h, a⟩ | ⟨h, a⟩)
      · exact ⟨by omega, a⟩
      · exact ⟨by omega, a⟩
    · rintro ⟨h, a⟩
      by_cases e : l.length ≤ j
      · exact .inl ⟨e, a⟩
      · exact .inr ⟨by omega, a⟩
theorem all_pw {k : Int} : ∀ j : Nat, (allL k j).Pairwise ltK
  | 0 => List.pairwise_singleton _ _
  | j + 1 => by
    unfold allL
    refine List.pairwise_append.mpr ⟨all_pw j, ?_, fun a ha b hb => ?_⟩
    · refine (List.Pairwise.and_mem.mp (lev_pw (k := k) (j + 1))).imp fun {l l'} ⟨h1, h2, h⟩ => .inr ⟨?_, h⟩
      rw [((mem_lev _ l).mp h1).1, ((mem_lev _ l').mp h2).1]
    · have h1 := ((mem_all j a).mp ha).1
      have h2 := ((mem_lev _ b).mp hb).1
      exact .inl (by omega)
theorem as_len {k : Nat} {l : List Int} (h : Asc k l) : l.length ≤ k := by
  have e : l = (rngL 0 k).filter fun x => decide (x ∈ l) := by
    refine asc_ext h.1 ((rng_pw 0 k).sublist List.filter_sublist) fun x => ?_
    rw [List.mem_filter, decide_eq_true_iff]
    refine ⟨fun hx => ⟨mem_rng.mpr ?_, hx⟩, fun hx => hx.2⟩
    have := h.2 x hx
    omega
  rw [e]
  refine Nat.le_trans (List.length_filter_le _ _) ?_
  unfold rngL
  simp
end TW
set_option Elab.async false
set_option maxRecDepth 100000
set_option maxHeartbeats 1000000
set_option linter.all false
set_option autoImplicit false
/-! k79: the lots that are tried, what is told; told twice -/
namespace TW
open Pa (rep)
open PaL (repL)
open PySem PySem.Spec PyProof.Rows L2 My
def numF (ns : List Int) (i : Int) : Int := (ns[i.toNat]?).getD 0
theorem numF_get {ns : List Int} {i : Int} (h : 0 ≤ i ∧ i < ns.length) : ∃ hi : i.toNat < ns.length, numF ns i = ns[i.toNat] := by
  have hi : i.toNat < ns.length := by omega
  refine ⟨hi, ?_⟩
  unfold numF
  rw [List.getElem?_eq_getElem hi]
  rfl
theorem numF_mono {ns : List Int} (h : ns.Pairwise (· < ·)) : ∀ x y : Int, 0 ≤ x → x < y → y < ns.length → numF ns x < numF ns y := by
  intro x y h0 h1 h2
  obtain ⟨i1, e1⟩ := numF_get (ns := ns) (i := x) ⟨h0, by omega⟩
  obtain ⟨i2, e2⟩ := numF_get (ns := ns) (i := y) ⟨by omega, h2⟩
  rw [e1, e2]
  exact List.pairwise_iff_getElem.mp h _ _ i1 i2 (by omega)
theorem numF_mem {ns : List Int} {i : Int} (h : 0 ≤ i ∧ i < ns.length) : numF ns i ∈ ns := by
  obtain ⟨i1, e1⟩ := numF_get h
  rw [e1]
  exact List.getElem_mem i1
def trI (ns : List Int) : List (List Int) := (allL ns.length ns.length).map fun t => t.map (numF ns)
theorem tr_pw {ns : List Int} (h : ns.Pairwise (· < ·)) : (trI ns).Pairwise ltK := by
  unfold trI
  refine List.pairwise_map.mpr ((List.Pairwise.and_mem.mp (all_pw (k := ns.length) ns.length)).imp fun {a b} ⟨h1, h2, h3⟩ => ?_)
  have a1 := ((mem_all _ a).mp h1).2
  have a2 := ((mem_all _ b).mp h2).2
  unfold ltK
  rw [List.length_map, List.length_map]
  rcases h3 with h3 | ⟨h3, h4⟩
  · exact .inl h3
  · exact .inr ⟨h3, lt_map (numF_mono h) h3 a1.2 a2.2 h4⟩
theorem mem_tr {ns : List Int} (h : ns.Pairwise (· < ·)) (x : List Int) : x ∈ trI ns ↔ x.Pairwise (· < ·) ∧ ∀ e ∈ x, e ∈ ns := by
  unfold trI
  rw [List.mem_map]
  constructor
  · rintro ⟨t, ht, rfl⟩
    have a := ((mem_all _ t).mp ht).2
    refine ⟨List.pairwise_map.mpr ((List.Pairwise.and_mem.mp a.1).imp fun {y z} ⟨h1, h2, h3⟩ => numF_mono h y z (a.2 y h1).1 h3 (a.2 z h2).2), fun e he => ?_⟩
    obtain ⟨y, hy, rfl⟩ := List.mem_map.mp he
    exact numF_mem (a.2 y hy)
  · rintro ⟨hp, hx⟩
    have ix : ∀ e ∈ ns, ∃ i : Int, 0 ≤ i ∧ i < ns.length ∧ numF ns i = e := fun e he => by
      obtain ⟨i, hi, ei⟩ := List.mem_iff_getElem.mp he
      refine ⟨(i : Int), by omega, by omega, ?_⟩
      unfold numF
      rw [Int.toNat_natCast, List.getElem?_eq_getElem hi]
      exact ei
    let g : Int → Int := fun e => if he : e ∈ ns then (ix e he).choose else 0
    have gs : ∀ e ∈ ns, 0 ≤ g e ∧ g e < ns.length ∧ numF ns (g e) = e := fun e he => by
      have : g e = (ix e he).choose := by show (if he : e ∈ ns then (ix e he).choose else 0) = _; rw [dif_pos he]
      rw [this]
      exact (ix e he).choose_spec
    have as : Asc ns.length (x.map g) := by
      refine ⟨?_, fun e he => ?_⟩
      · refine List.pairwise_map.mpr ((List.Pairwise.and_mem.mp hp).imp fun {y z} ⟨h1, h2, h3⟩ => ?_)
        obtain ⟨a1, a2, a3⟩ := gs y (hx y h1)
        obtain ⟨b1, b2, b3⟩ := gs z (hx z h2)
        refine Decidable.byContradiction fun k => ?_
        rcases Int.lt_or_eq_of_le (Int.not_lt.mp k) with l | l
        · have := numF_mono h _ _ b1 l a2
          rw [a3, b3] at this
          omega
        · rw [l, a3] at b3
          omega
      · obtain ⟨y, hy, rfl⟩ := List.mem_map.mp he
        exact ⟨(gs y (hx y hy)).1, (gs y (hx y hy)).2.1⟩
    refine ⟨x.map g, (mem_all _ _).mpr ⟨as_len as, as⟩, ?_⟩
    rw [List.map_map]
    refine (List.map_congr_left fun e he => ?_).trans (List.map_id' x)
    exact (gs e (hx e he)).2.2
def trM (U : Nat) : List Nat := (trI (lotI U)).map mk9
theorem tr_asc {U : Nat} {x : List Int} (h : x ∈ trI (lotI U)) : x.Pairwise (· < ·) ∧ ∀ e ∈ x, 0 ≤ e ∧ e < 12 := by
  obtain ⟨a, b⟩ := (mem_tr (lotI_lt U) x).mp h
  exact ⟨a, fun e he => lotI_b e (b e he)⟩
theorem tr_lot (U : Nat) : (trM U).map lotI = trI (lotI U) := by
  unfold trM
  rw [List.map_map]
  refine (List.map_congr_left fun x hx => ?_).trans (List.map_id' _)
  obtain ⟨a, b⟩ := tr_asc hx
  exact lot_mk a b
theorem mem_trM {U M : Nat} (hU : U < 4096) : M ∈ trM U ↔ M < 4096 ∧ Sb M U := by
  unfold trM
  rw [List.mem_map]
  constructor
  · rintro ⟨x, hx, rfl⟩
    obtain ⟨a, b⟩ := tr_asc hx
    refine ⟨mk9_lt x b, sb_iff.mpr fun i hi => ?_⟩
    exact (mem_lot' hU).mp (((mem_tr (lotI_lt U) x).mp hx).2 _ ((mk9_bit x b i).mp hi))
  · rintro ⟨h, s⟩
    refine ⟨lotI M, (mem_tr (lotI_lt U) _).mpr ⟨lotI_lt M, fun e he => ?_⟩, mk_lot h⟩
    obtain ⟨i, rfl, hi, hb⟩ := mem_lotI.mp he
    exact mem_lotI.mpr ⟨i, rfl, hi, sb_iff.mp s i hb⟩
def resM (Ms : List Nat) (U : Nat) : List Nat := kp [] ((trM U).filter fun M => decide (hit Ms M))
theorem trf_pw {U : Nat} (p : Nat → Bool) : (((trM U).filter p).map lotI).Pairwise ltK := by
  have : ((trM U).map lotI).Pairwise ltK := by rw [tr_lot]; exact tr_pw (lotI_lt U)
  rw [List.pairwise_map] at this ⊢
  exact this.sublist List.filter_sublist
theorem res_pw (Ms : List Nat) (U : Nat) : ((resM Ms U).map lotI).Pairwise ltK := by
  have := trf_pw (U := U) fun M => decide (hit Ms M)
  rw [List.pairwise_map] at this ⊢
  exact this.sublist (kp_sub0 _)
def UnF (Ms : List Nat) (U : Nat) : Prop := ∀ i, U.testBit i = true ↔ ∃ M ∈ Ms, M.testBit i = true
theorem res_mem {Ms : List Nat} {U : Nat} (hU : U < 4096) (u : UnF Ms U) (M : Nat) : M ∈ resM Ms U ↔ Mn Ms M := by
  have pw := pw_sb (Ms := (trM U).filter fun M => decide (hit Ms M)) (fun M hM => ((mem_trM hU).mp (List.mem_filter.mp hM).1).1) (trf_pw _)
  unfold resM
  rw [mem_kp pw]
  have mf : ∀ N, N ∈ (trM U).filter (fun M => decide (hit Ms M)) ↔ (N < 4096 ∧ Sb N U) ∧ hit Ms N := fun N => by
    rw [List.mem_filter, mem_trM hU, decide_eq_true_iff]
  constructor
  · rintro ⟨h, mn⟩
    obtain ⟨⟨h1, h2⟩, h3⟩ := (mf M).mp h
    exact ⟨h1, h3, fun N hN hh s => mn N ((mf N).mpr ⟨⟨hN, sb_trans s h2⟩, hh⟩) s⟩
  · rintro ⟨h1, h3, mn⟩
    have e : M &&& U = M := by
      refine mn _ (Nat.lt_of_le_of_lt Nat.and_le_left h1) (fun X hX => ?_) (sb_iff.mpr fun i hi => ?_)
      · obtain ⟨i, a, b⟩ := meet_ne.mp (h3 X hX)
        exact meet_ne.mpr ⟨i, by rw [Nat.testBit_and, a, (u i).mpr ⟨X, hX, b⟩]; rfl, b⟩
      · rw [Nat.testBit_and, Bool.and_eq_true] at hi
        exact hi.1
    exact ⟨(mf M).mpr ⟨⟨h1, e⟩, h3⟩, fun N hN s => mn N ((mf N).mp hN).1.1 ((mf N).mp hN).2 s⟩
/-! ### told twice -/
theorem ex_min {Ms : List Nat} : ∀ (n C : Nat), C ≤ n → C < 4096 → hit Ms C → ∃ T, Mn Ms T ∧ Sb T C := by
  intro n
  induction n with
  | zero =>
    intro C h hC hh
    refine ⟨C, ⟨hC, hh, fun N _ _ s => ?_⟩, sb_refl C⟩
    have := sb_le s
    omega
  | succ n ih =>
    intro C h hC hh
    by_cases m : ∀ N, N < 4096 → hit Ms N → Sb N C → N = C
    · exact ⟨C, ⟨hC, hh, m⟩, sb_refl C⟩
    · simp only [Classical.not_forall] at m
      obtain ⟨N, h1, h2, h3, h4⟩ := m
      have := sb_le h3
      obtain ⟨T, t, s⟩ := ih N (by omega) h1 h2
      exact ⟨T, t, sb_trans s h3⟩
theorem hit2 {Ms Rs : List Nat} (hM : ∀ M ∈ Ms, M < 4096) (hR : ∀ T, T ∈ Rs ↔ Mn Ms T) {X : Nat} : hit Rs X ↔ ∃ h ∈ Ms, Sb h X := by
  constructor
  · intro hx
    refine Classical.byContradiction fun k => ?_
    have k : ∀ h ∈ Ms, ¬ Sb h X := fun h hh s => k ⟨h, hh, s⟩
    let C := setN ((List.range 12).filter fun i => !X.testBit i)
    have cb : ∀ i, C.testBit i = true ↔ i < 12 ∧ X.testBit i = false := fun i => by
      show (setN _).testBit i = true ↔ _
      rw [setN_bit, decide_eq_true_iff, List.mem_filter, List.mem_range]
      simp
    have hC : C < 4096 := lt_4096 fun i hi => ((cb i).mp hi).1
    have hh : hit Ms C := fun h hm => by
      have : ∃ i, h.testBit i = true ∧ X.testBit i = false := by
        refine Classical.byContradiction fun z => k h hm (sb_iff.mpr fun i hi => ?_)
        cases e : X.testBit i with
        | true => rfl
        | false => exact (z ⟨i, hi, e⟩).elim
      obtain ⟨i, a, b⟩ := this
      exact meet_ne.mpr ⟨i, (cb i).mpr ⟨bit12 (hM h hm) a, b⟩, a⟩
    obtain ⟨T, t, s⟩ := ex_min C C (Nat.le_refl _) hC hh
    obtain ⟨i, a, b⟩ := meet_ne.mp (hx T ((hR T).mpr t))
    have := ((cb i).mp (sb_iff.mp s i b)).2
    rw [a] at this
    cases this
  · rintro ⟨h, hm, s⟩ T hT
    obtain ⟨i, a, b⟩ := meet_ne.mp (((hR T).mp hT).2.1 h hm)
    exact meet_ne.mpr ⟨i, sb_iff.mp s i b, a⟩
theorem twice {Ms Rs : List Nat} (hM : ∀ M ∈ Ms, M < 4096) (hR : ∀ T, T ∈ Rs ↔ Mn Ms T) {X : Nat} : Mn Rs X ↔ X ∈ Ms ∧ ∀ N ∈ Ms, Sb N X → N = X := by
  constructor
  · rintro ⟨h1, h2, h3⟩
    obtain ⟨h, hm, s⟩ := (hit2 hM hR).mp h2
    have e := h3 h (hM h hm) ((hit2 hM hR).mpr ⟨h, hm, sb_refl h⟩) s
    subst e
    exact ⟨hm, fun N hN s => h3 N (hM N hN) ((hit2 hM hR).mpr ⟨N, hN, sb_refl N⟩) s⟩
  · rintro ⟨h1, h2⟩
    refine ⟨hM X h1, (hit2 hM hR).mpr ⟨X, h1, sb_refl X⟩, fun N hN hh s => ?_⟩
    obtain ⟨h, hm, s2⟩ := (hit2 hM hR).mp hh
    have e := h2 h hm (sb_trans s2 s)
    subst e
    exact sb_anti s s2
end TW
set_option Elab.async false
set_option maxRecDepth 100000
set_option maxHeartbeats 1000000
set_option linter.all false
set_option autoImplicit false
/-! k79: the program's parts -/
namespace TW
open Pa (rep)
open PaL (repL)
open PySem PySem.Spec PyProof.Rows L2 My
open PySem.W (dataLe dataLt alike alikeAll rowLt dataLt_ints dataLt_int dataLt_pair dataLt_tuple)
def lotT (M : Nat) : Tup Int := ⟨lotI M⟩
theorem g_setT {M : Nat} (h : M < 4096) : Gv (w_set_of_Ti ⟨lotI M⟩) (M : Int) := by
  unfold w_set_of_Ti
  simp only [pb, ba, sq_nx, sq_rt, sq_b, fR_rt, fR_b, fN_nx, fN_b, setW, retW, dropW]
  have e : ∀ (ds : List Nat) (m : Nat), (∀ d ∈ ds, d < 16) → Gv (forW (L := Empty) (fun (x : Int) (s : Int) => W.need (CPow 1 x) >>= fun _ => (pure (.nx (Builtin.bitOr s (1 * 2 ^ x.toNat))) : W (Res Int Int Int))) (ds.map Int.ofNat) (m : Int)) (.nx ((ds.foldl (fun m d => m ||| 2 ^ d) m : Nat) : Int)) := fun ds => by
    induction ds with
    | nil => exact fun m _ => Gv.ret
    | cons d ds ih =>
      intro m h
      have hd := h d List.mem_cons_self
      refine Gv.bind (a := .nx ((m ||| 2 ^ d : Nat) : Int)) (Gv.need' ⟨by show (0 : Int) ≤ (d : Int); omega, by show (d : Int) ≤ 1000000; omega, by decide⟩ (Gv.ret.cast (congrArg Res.nx (or_bit m d)))) ?_
      exact ih (m ||| 2 ^ d) fun x hx => h x (List.mem_cons_of_mem _ hx)
  have e2 : setN (lotN M) = M := by
    apply Nat.eq_of_testBit_eq
    intro i
    rw [Bool.eq_iff_iff, setN_bit, decide_eq_true_iff, mem_lotN]
    exact ⟨fun h => h.2, fun k => ⟨bit12 h k, k⟩⟩
  have := e (lotN M) 0 (fun d hd => by have := (mem_lotN.mp hd).1; omega)
  refine Gv.fR ((this.cast (b := .nx (M : Int)) ?_).bind Gv.ret)
  show Res.nx ((setN (lotN M) : Nat) : Int) = _
  rw [e2]
theorem g_allM {α β γ : Type} {e : α → W β} {g : γ → α} {eb : γ → β} {xs : List γ} (h : ∀ x ∈ xs, Gv (e (g x)) (eb x)) : Gv (compW (fun _ => (pure true : W Bool)) e (xs.map g)) (xs.map eb) := by
  have := Gv.compM (t := fun _ => (pure true : W Bool)) (e := e) (f := g) (tb := fun _ => true) (eb := eb) (xs := xs) (fun _ _ => Gv.ret) fun x hx _ => h x hx
  rwa [List.filter_eq_self.mpr fun _ _ => rfl] at this
theorem kp_snoc : ∀ (Ms : List Nat) (acc : List Nat) (M : Nat), kp acc (Ms ++ [M]) = if (kp acc Ms).any (fun N => decide (Sb N M)) = true then kp acc Ms else kp acc Ms ++ [M]
  | [], acc, M => by
    show kp acc [M] = _
    unfold kp
    rfl
  | X :: Ms, acc, M => by
    rw [List.cons_append]
    unfold kp
    split
    · exact kp_snoc Ms acc M
    · exact kp_snoc Ms _ M
theorem sb_eq (a b : Nat) : pyEq (Builtin.bitAnd (a : Int) (Builtin.bitNot (b : Int))) (0 : Int) = decide (Sb a b) := by
  rw [bitAnd_notnat, pyEq_ii]
  refine decide_eq_decide.mpr ?_
  rw [show (0 : Int) = ((0 : Nat) : Int) from rfl, Int.ofNat_inj, sb_iff]
  constructor
  · intro z i hi
    have : (SN.mk a b true).b.testBit i = false := by rw [z, Nat.zero_testBit]
    rw [SN.b_bit] at this
    have this : (a.testBit i && !b.testBit i) = false := this
    rw [hi] at this
    simpa using this
  · intro h
    apply Nat.eq_of_testBit_eq
    intro i
    rw [SN.b_bit, Nat.zero_testBit]
    show (a.testBit i && !b.testBit i) = false
    cases e : a.testBit i with
    | false => rfl
    | true => rw [h i e]; rfl
theorem g_least_lots {Ms : List Nat} (hb : ∀ M ∈ Ms, M < 4096) (hz : Ms.length ≤ 5000) : Gv (w_least_lots ⟨Ms.map lotT⟩) ⟨(kp [] Ms).map lotT⟩ := by
  unfold w_least_lots
  simp only [pb, ba, sq_nx, sq_rt, sq_b, fR_rt, fR_b, fN_nx, fN_b, setW, retW, dropW]
  refine Gv.need' (by simp) (Gv.need' (by simp) (Gv.fR (Gv.bind (a := .nx ((kp [] Ms).map lotT, (kp [] Ms).map fun M : Nat => (M : Int))) ?_ Gv.ret)))
  refine (Rn.mono (Rn.forL (fun j s => s = ((kp [] (Ms.take j)).map lotT, (kp [] (Ms.take j)).map fun M : Nat => (M : Int))) (by simp [kp]) fun j x s hx hI => ?_) ?_).gv
  · subst hI
    rw [List.getElem?_map, Option.map_eq_some_iff] at hx
    obtain ⟨M, hM, rfl⟩ := hx
    have hl : (kp [] (Ms.take j)).length ≤ 5000 := by
      have h1 := (kp_sub0 (Ms.take j)).length_le
      rw [List.length_take] at h1
      omega
    have hmem : M ∈ Ms := List.mem_of_getElem? hM
    refine Gv.bindR (g_setT (hb M hmem)) (Rn.need (by simp only [List.length_map]; rw [sizeLine_eq]; omega) ?_)
    refine Gv.bindR (g_allM (eb := fun N => decide (Sb N M)) fun N hN => by rw [e_within, sb_eq]; exact Gv.ret) ?_
    have et : Ms.take (j + 1) = Ms.take j ++ [M] := by rw [List.take_add_one, hM]; rfl
    rw [et, kp_snoc]
    have ea : ((kp [] (Ms.take j)).map fun N => decide (Sb N M)).any id = (kp [] (Ms.take j)).any fun N => decide (Sb N M) := by rw [List.any_map]; rfl
    rw [ea]
    by_cases c : (kp [] (Ms.take j)).any (fun N => decide (Sb N M)) = true
    · rw [if_pos c, c]
      exact Rn.ret ⟨_, rfl, rfl⟩
    · rw [if_neg c, Bool.eq_false_iff.mpr c]
      simp only [Bool.not_false, if_true]
      simp only [pb, ba, sq_nx, sq_rt, sq_b, fR_rt, fR_b, fN_nx, fN_b, setW, retW, dropW]
      refine Rn.need (by simp only [List.length_map]; rw [sizeLine_eq]; omega) (Rn.need (by simp only [List.length_map]; rw [sizeLine_eq]; omega) (Rn.ret ⟨_, rfl, ?_⟩))
      simp only [List.map_append]
      rfl
  · rintro r ⟨s', rfl, rfl⟩
    rw [List.length_map, List.take_length]
theorem g_first_behind (l : List Int) : Gv (w_first_behind ⟨l⟩) (fbI l) := by
  unfold w_first_behind
  simp only [pb, ba, sq_nx, sq_rt, sq_b, fR_rt, fR_b, fN_nx, fN_b, setW, retW, dropW]
  rcases List.eq_nil_or_concat l with rfl | ⟨m, x, e⟩
  · exact Gv.ret
  · rw [List.concat_eq_append] at e
    subst e
    have h : Tr.tr (⟨m ++ [x]⟩ : Tup Int) = true := by
      show (!(m ++ [x]).isEmpty) = true
      simp
    rw [if_pos h, fbI_app]
    refine Gv.bind (Gv.bind (Gv.get (a := x) ?_) Gv.ret) Gv.ret
    show atI (m ++ [x]) (-1) = some x
    have e1 : ixN (m ++ [x]).length (-1) = some m.length := by
      unfold ixN
      rw [if_neg (by decide), List.length_append, List.length_singleton, if_pos (by omega)]
      congr 1
      omega
    unfold atI
    rw [e1]
    show (m ++ [x])[m.length]? = some x
    rw [List.getElem?_append_right (Nat.le_refl _), Nat.sub_self]
    rfl
/-! two fors -/
theorem g_lcW {γ β : Type} {e : γ → W β} {f : γ → β} : ∀ (ys : List γ) (acc : List β), acc.length + ys.length ≤ sizeLine → (∀ y ∈ ys, Gv (e y) (f y)) → Gv (lcW (fun _ => (pure true : W Bool)) e ys acc) (acc ++ ys.map f)
  | [], acc, _, _ => by
    unfold lcW
    rw [List.map_nil, List.append_nil]
    exact Gv.ret
  | y :: ys, acc, hz, h => by
    rw [List.length_cons] at hz
    unfold lcW
    refine Gv.bind (a := true) (Gv.ret (a := true)).quiet ?_
    rw [if_pos rfl]
    refine Gv.bind (h y List.mem_cons_self).quiet (Gv.need' (by omega) ?_)
    have := g_lcW (e := e) (f := f) ys (acc ++ [f y]) (by rw [List.length_append, List.length_singleton]; omega) fun z hz => h z (List.mem_cons_of_mem _ hz)
    rw [List.append_assoc] at this
    exact this
theorem g_lcW2 {α γ β : Type} {m1 : α → W (List γ)} {e : α → γ → W β} {g : α → List γ} {f : α → γ → β} : ∀ (xs : List α) (acc : List β), (∀ x ∈ xs, Gv (m1 x) (g x)) → (∀ x ∈ xs, ∀ y ∈ g x, Gv (e x y) (f x y)) → acc.length + (xs.flatMap fun x => (g x).map (f x)).length ≤ sizeLine →
    Gv (lcW2 (fun _ => (pure true : W Bool)) m1 (fun _ _ => (pure true : W Bool)) e xs acc) (acc ++ xs.flatMap fun x => (g x).map (f x))
  | [], acc, _, _, _ => by
    unfold lcW2
    rw [List.flatMap_nil, List.append_nil]
    exact Gv.ret
  | x :: xs, acc, h1, h2, hz => by
    rw [List.flatMap_cons, List.length_append, List.length_map] at hz
    unfold lcW2
    refine Gv.bind (a := true) (Gv.ret (a := true)).quiet ?_
    rw [if_pos rfl]
    refine Gv.bind (h1 x List.mem_cons_self).quiet (Gv.bind (g_lcW (g x) acc (by omega) (h2 x List.mem_cons_self)) ?_)
    have := g_lcW2 (m1 := m1) (e := e) (g := g) (f := f) xs (acc ++ (g x).map (f x)) (fun z hz => h1 z (List.mem_cons_of_mem _ hz)) (fun z hz => h2 z (List.mem_cons_of_mem _ hz)) (by rw [List.length_append, List.length_map]; omega)
    rw [List.append_assoc] at this
    rw [List.flatMap_cons]
    exact this
theorem asc_count {L : List (List Int)} (nd : L.Nodup) (h : ∀ l ∈ L, Asc 12 l) : L.length ≤ 4096 := by
  have n2 : (L.map mk9).Nodup := by
    refine List.pairwise_map.mpr ((List.Pairwise.and_mem.mp nd).imp fun {a b} ⟨h1, h2, h3⟩ e => h3 ?_)
    rw [← lot_mk (h a h1).1 (h a h1).2, e, lot_mk (h b h2).1 (h b h2).2]
  have p : (L.map mk9).Perm ((List.range 4096).filter fun x => decide (x ∈ L.map mk9)) := by
    refine (List.perm_ext_iff_of_nodup n2 (List.Nodup.sublist List.filter_sublist List.nodup_range)).mpr fun a => ?_
    rw [List.mem_filter, List.mem_range, decide_eq_true_iff]
    refine ⟨fun ha => ⟨?_, ha⟩, fun ha => ha.2⟩
    obtain ⟨l, hl, rfl⟩ := List.mem_map.mp ha
    exact mk9_lt l (h l hl).2
  have := p.length_eq
  rw [List.length_map] at this
  rw [this]
  exact Nat.le_trans (List.length_filter_le _ _) (by rw [List.length_range]; exact Nat.le_refl _)
theorem asc_12 {k : Nat} (hk : k ≤ 12) {l : List Int} (h : Asc k l) : Asc 12 l := ⟨h.1, fun x hx => by have := h.2 x hx; omega⟩
theorem lev_len {k : Nat} (hk : k ≤ 12) (j : Nat) : (lev k j).length ≤ 4096 := asc_count ((lev_pw j).imp fun {a b} h e => by subst e; exact lt_irr _ h) fun l hl => asc_12 hk ((mem_lev j l).mp hl).2
theorem all_len {k : Nat} (hk : k ≤ 12) (j : Nat) : (allL k j).length ≤ 4096 := asc_count ((all_pw j).imp fun {a b} h e => by subst e; exact ltK_irr _ h) fun l hl => asc_12 hk ((mem_all j l).mp hl).2
theorem g_all_lots {k : Nat} (hk : k ≤ 12) : Gv (w_all_lots k) ((allL k k).map Tup.mk) := by
  unfold w_all_lots
  simp only [pb, ba, sq_nx, sq_rt, sq_b, fR_rt, fR_b, fN_nx, fN_b, setW, retW, dropW]
  refine Gv.need' (by simp) (Gv.need' (by rw [sizeLine_eq]; simp) (Gv.need' (by simp) (Gv.need' (by rw [sizeLine_eq]; simp) (Gv.need' ⟨by omega, by omega⟩ (Gv.fR (Gv.bind (a := .nx ((allL k k).map Tup.mk, (lev k k).map Tup.mk)) ?_ Gv.ret))))))
  refine (Rn.mono (Rn.forL (fun j s => s = ((allL k j).map Tup.mk, (lev k j).map Tup.mk)) rfl fun j x s hx hI => ?_) ?_).gv
  · subst hI
    have e : ((lev k j).map Tup.mk).flatMap (fun t : Tup Int => (rngL (fbI t.l) ((k : Int) - fbI t.l).toNat).map fun y => (Tup.mk (t.l ++ [y]) : Tup Int)) = (lev k (j + 1)).map Tup.mk := by
      show _ = (nxtI k (lev k j)).map Tup.mk
      unfold nxtI
      rw [List.flatMap_map, List.map_flatMap]
      refine congrArg (fun f => (lev k j).flatMap f) (funext fun l => ?_)
      rw [List.map_map]
      rfl
    have l1 := lev_len hk (j + 1)
    have l2 := all_len hk j
    refine Gv.bindR (g_lcW2 (g := fun t : Tup Int => rngL (fbI t.l) ((k : Int) - fbI t.l).toNat) (f := fun t y => (Tup.mk (t.l ++ [y]) : Tup Int)) _ [] (fun t ht => ?_) (fun t ht y hy => ?_) ?_) ?_
    · obtain ⟨l, hl, rfl⟩ := List.mem_map.mp ht
      have a := ((mem_lev j l).mp hl).2
      refine (g_first_behind l).bind (Gv.need' ?_ Gv.ret)
      have n0 := fb_nn a
      have : fbI l ≤ k := by
        rcases List.eq_nil_or_concat l with rfl | ⟨m, z, e⟩
        · show (0 : Int) ≤ k; omega
        · rw [List.concat_eq_append] at e
          subst e
          rw [fbI_app]
          have := a.2 z (by simp)
          omega
      exact ⟨by omega, by omega, by omega, by omega⟩
    · obtain ⟨l, hl, rfl⟩ := List.mem_map.mp ht
      have a := ((mem_lev j l).mp hl).2
      have := as_len a
      refine Gv.need' (by rw [sizeLine_eq]; simp) (Gv.need' (by show l.length + [y].length ≤ sizeLine; rw [sizeLine_eq, List.length_singleton]; omega) Gv.ret)
    · rw [e, List.length_map, sizeLine_eq]
      simp only [List.length_nil]
      omega
    · rw [e, List.nil_append]
      refine Rn.need (by rw [List.length_map, List.length_map, sizeLine_eq]; omega) (Rn.ret ⟨_, rfl, ?_⟩)
      show _ = ((allL k j ++ lev k (j + 1)).map Tup.mk, _)
      rw [List.map_append]
  · rintro r ⟨s', rfl, rfl⟩
    have : (rngL 0 ((k : Int)).toNat).length = k := by unfold rngL; simp
    rw [this]
theorem g_meets {Ms : List Nat} {X : Nat} : Gv (w_meets_all X ⟨Ms.map fun M : Nat => (M : Int)⟩) (decide (hit Ms X)) := by
  unfold w_meets_all
  simp only [pb, ba, sq_nx, sq_rt, sq_b, fR_rt, fR_b, fN_nx, fN_b, setW, retW, dropW]
  refine Gv.fR ?_
  have e : (Ms.map fun M : Nat => (M : Int)).all (fun x : Int => !pyEq (Builtin.bitAnd (X : Int) x) (0 : Int)) = decide (hit Ms X) := by
    rw [List.all_map, Bool.eq_iff_iff, List.all_eq_true, decide_eq_true_iff]
    unfold hit
    refine forall_congr' fun M => forall_congr' fun _ => ?_
    show (!pyEq (Builtin.bitAnd (X : Int) (M : Int)) (0 : Int)) = true ↔ _
    rw [bitAnd_nat, pyEq_ii]
    simp only [Bool.not_eq_true', decide_eq_false_iff_not]
    omega
  refine Gv.bind (Gv.forAll (p := fun x : Int => !pyEq (Builtin.bitAnd (X : Int) x) (0 : Int)) (b := false) fun x hx => ?_) ?_
  · cases c : pyEq (Builtin.bitAnd (X : Int) x) (0 : Int) with
    | true => rw [if_pos rfl]; exact Gv.ret
    | false => rw [if_neg Bool.false_ne_true]; exact Gv.ret
  · rw [e]
    cases decide (hit Ms X) with
    | true => exact Gv.ret
    | false => exact Gv.ret
end TW
set_option Elab.async false
set_option maxRecDepth 100000
set_option maxHeartbeats 1000000
set_option linter.all false
set_option autoImplicit false
/-! k79: in order; what is told as a value -/
namespace TW
open Pa (rep)
open PaL (repL)
open PySem PySem.Spec PyProof.Rows L2 My
open PySem.W (dataLe dataLt alike alikeAll rowLt dataLt_ints dataLt_int dataLt_pair dataLt_tuple)
def prI (l : List Int) : T2 Int (Tup Int) := ⟨(l.length : Int), ⟨l⟩⟩
def prT (M : Nat) : T2 Int (Tup Int) := prI (lotI M)
theorem ltT_dec (a b : List Int) : dataLt (Dt.d (prI a)) (Dt.d (prI b)) = true ↔ ltK a b := by
  have h1 : alike (PyData.int (a.length : Int)) (.int (b.length : Int)) = true := by simp [alike]
  have h2 : alike (PyData.tuple (a.map .int)) (.tuple (b.map .int)) = true := by
    have := Al.al (α := Tup Int) ⟨a⟩ ⟨b⟩
    exact this
  have e : dataLt (Dt.d (prI a)) (Dt.d (prI b)) = dataLt (.tuple [.int (a.length : Int), .tuple (a.map .int)]) (.tuple [.int (b.length : Int), .tuple (b.map .int)]) := rfl
  have e2 : dataLt (.tuple (a.map .int)) (.tuple (b.map .int)) = decide (a < b) := by
    rw [dataLt_tuple]
    exact dataLt_ints a b
  rw [e, dataLt_pair h1 h2, dataLt_int, e2]
  unfold ltK
  have ee : PyData.eqv (.int (a.length : Int)) (.int (b.length : Int)) = decide (a.length = b.length) := by
    simp only [PyData.eqv]
    rw [Bool.eq_iff_iff]
    simp
    omega
  rw [ee]
  by_cases c : a.length = b.length
  · rw [if_pos (decide_eq_true c)]
    by_cases d : PyData.eqv (PyData.tuple (a.map .int)) (.tuple (b.map .int)) = true
    · rw [if_pos d]
      have : a = b := by
        have := (Dn.eq (α := Tup Int) ⟨a⟩ ⟨b⟩).mp d
        exact congrArg Tup.l this
      subst this
      simp [lt_irr]
    · rw [if_neg d]
      simp [c]
  · rw [if_neg (by simpa using c)]
    simp [c]
theorem leK_trans (a b c : List Int) (h1 : ¬ ltK b a) (h2 : ¬ ltK c b) : ¬ ltK c a := by
  intro h
  unfold ltK at h1 h2 h
  rcases h with h | ⟨h, h'⟩
  · have a1 : ¬ b.length < a.length := fun z => h1 (.inl z)
    have a2 : ¬ c.length < b.length := fun z => h2 (.inl z)
    omega
  · have a1 : ¬ b.length < a.length := fun z => h1 (.inl z)
    have a2 : ¬ c.length < b.length := fun z => h2 (.inl z)
    have e1 : b.length = a.length := by omega
    have e2 : c.length = b.length := by omega
    have n1 : ¬ b < a := fun z => h1 (.inr ⟨e1, z⟩)
    have n2 : ¬ c < b := fun z => h2 (.inr ⟨e2, z⟩)
    exact List.not_lt.mpr (List.le_trans (List.not_lt.mp n1) (List.not_lt.mp n2)) h'
theorem leK_anti {a b : List Int} (h1 : ¬ ltK b a) (h2 : ¬ ltK a b) : a = b := by
  unfold ltK at h1 h2
  have a1 : ¬ b.length < a.length := fun z => h1 (.inl z)
  have a2 : ¬ a.length < b.length := fun z => h2 (.inl z)
  have e : a.length = b.length := by omega
  exact List.le_antisymm (List.not_lt.mp fun z => h1 (.inr ⟨e.symm, z⟩)) (List.not_lt.mp fun z => h2 (.inr ⟨e, z⟩))
def srtM (Ms : List Nat) : List Nat := Ms.mergeSort fun a b => dataLe false Dt.d (prT a) (prT b)
theorem srt_pr (Ms : List Nat) : srtD (Ms.map prT) = (srtM Ms).map prT := by
  unfold srtD srtM
  exact (List.map_mergeSort (r := fun a b => dataLe false Dt.d (prT a) (prT b)) (s := dataLe false Dt.d) (f := prT) (fun a _ b _ => rfl)).symm
theorem leM (a b : Nat) : dataLe false Dt.d (prT a) (prT b) = true ↔ ¬ ltK (lotI b) (lotI a) := by
  rw [← ltT_dec]
  show (!dataLt (Dt.d (prT b)) (Dt.d (prT a))) = true ↔ _
  unfold prT
  cases dataLt (Dt.d (prI (lotI b))) (Dt.d (prI (lotI a))) <;> simp
theorem mem_srtM {Ms : List Nat} {M : Nat} : M ∈ srtM Ms ↔ M ∈ Ms := List.mem_mergeSort
theorem srtM_len (Ms : List Nat) : (srtM Ms).length = Ms.length := List.length_mergeSort _
theorem srtM_eq {Fs R : List Nat} (nd : Fs.Nodup) (hb : ∀ M ∈ Fs, M < 4096) (hR : (R.map lotI).Pairwise ltK) (hm : ∀ M, M ∈ R ↔ M ∈ Fs) : srtM Fs = R := by
  rw [List.pairwise_map] at hR
  have ndR : R.Nodup := hR.imp fun {a b} h e => by subst e; exact ltK_irr _ h
  have p : (srtM Fs).Perm R := (List.mergeSort_perm _ _).trans ((List.perm_ext_iff_of_nodup nd ndR).mpr fun a => (hm a).symm)
  have s1 : (srtM Fs).Pairwise fun a b => dataLe false Dt.d (prT a) (prT b) = true := List.pairwise_mergeSort (fun a b c h1 h2 => (leM a c).mpr (leK_trans _ _ _ ((leM a b).mp h1) ((leM b c).mp h2))) (fun a b => by
    cases e : dataLe false Dt.d (prT a) (prT b) with
    | true => rfl
    | false =>
      rw [Bool.false_or]
      refine (leM b a).mpr fun h => ?_
      have : ¬ ¬ ltK (lotI b) (lotI a) := fun z => by rw [(leM a b).mpr z] at e; cases e
      exact this fun z => ltK_asym _ _ h z) _
  refine p.eq_of_pairwise (fun a b ha hb' h1 h2 => ?_) s1 (hR.imp fun {a b} h => (leM a b).mpr fun z => ltK_asym _ _ h z)
  exact lotI_inj (hb a (mem_srtM.mp ha)) (hb b ((hm b).mp hb')) (leK_anti ((leM a b).mp h1) ((leM b a).mp h2))
/-! ### numbers in lots -/
theorem ddup_12 {l : List Int} (h : ∀ x ∈ l, 0 ≤ x ∧ x < 12) : (ddup l).length ≤ 12 := by
  rw [ddup_srt]
  exact as_len (k := 12) ⟨srtU_lt l, fun x hx => h x ((srtU_mem l x).mp hx)⟩
theorem g_scW {ys acc : List Int} (h : ∀ x ∈ acc ++ ys, 0 ≤ x ∧ x < 12) : Gv (scW (fun _ => (pure true : W Bool)) (fun y : Int => (pure y : W Int)) ys acc) (acc ++ ys) := by
  induction ys generalizing acc with
  | nil => unfold scW; rw [List.append_nil]; exact Gv.ret
  | cons y ys ih =>
    unfold scW
    refine Gv.bind (a := true) (Gv.ret (a := true)).quiet ?_
    rw [if_pos rfl]
    refine Gv.bind (a := y) (Gv.ret (a := y)).quiet (Gv.need' ?_ ?_)
    · have := ddup_12 (l := acc) fun x hx => h x (List.mem_append_left _ hx)
      omega
    · have := ih (acc := acc ++ [y]) (by rw [List.append_assoc]; exact h)
      rw [List.append_assoc] at this
      exact this
theorem g_scW2 {α : Type} {g : α → List Int} : ∀ (xs : List α) (acc : List Int), (∀ x ∈ acc ++ xs.flatMap g, 0 ≤ x ∧ x < 12) → Gv (scW2 (fun _ => (pure true : W Bool)) (fun x => (pure (g x) : W (List Int))) (fun _ _ => (pure true : W Bool)) (fun (_ : α) (y : Int) => (pure y : W Int)) xs acc) (acc ++ xs.flatMap g)
  | [], acc, _ => by unfold scW2; rw [List.flatMap_nil, List.append_nil]; exact Gv.ret
  | x :: xs, acc, h => by
    rw [List.flatMap_cons, ← List.append_assoc] at h
    unfold scW2
    refine Gv.bind (a := true) (Gv.ret (a := true)).quiet ?_
    rw [if_pos rfl]
    refine Gv.bind (Gv.ret (a := g x)).quiet (Gv.bind (g_scW (acc := acc) (ys := g x) fun z hz => h z (List.mem_append_left _ hz)) ?_)
    have := g_scW2 (g := g) xs (acc ++ g x) h
    rw [List.append_assoc] at this
    rw [List.flatMap_cons]
    exact this
def UF (Ms : List Nat) : Nat := mk9 (Ms.flatMap lotI)
theorem fl_b (Ms : List Nat) : ∀ x ∈ Ms.flatMap lotI, 0 ≤ x ∧ x < 12 := fun x hx => by
  obtain ⟨M, _, h⟩ := List.mem_flatMap.mp hx
  exact lotI_b x h
theorem UF_lt (Ms : List Nat) : UF Ms < 4096 := mk9_lt _ (fl_b Ms)
theorem UF_un {Ms : List Nat} (hb : ∀ M ∈ Ms, M < 4096) : UnF Ms (UF Ms) := fun i => by
  unfold UF
  rw [mk9_bit _ (fl_b Ms), List.mem_flatMap]
  exact ⟨fun ⟨M, hM, h⟩ => ⟨M, hM, (mem_lot' (hb M hM)).mp h⟩, fun ⟨M, hM, h⟩ => ⟨M, hM, (mem_lot' (hb M hM)).mpr h⟩⟩
theorem srtU_fl (Ms : List Nat) : srtU (Ms.flatMap lotI) = lotI (UF Ms) := by
  refine asc_ext (srtU_lt _) (lotI_lt _) fun x => ?_
  rw [srtU_mem]
  constructor
  · intro h
    have b := fl_b Ms x h
    have e : x = ((x.toNat : Nat) : Int) := (Int.toNat_of_nonneg b.1).symm
    rw [e] at h ⊢
    exact (mem_lot' (UF_lt Ms)).mpr ((mk9_bit _ (fl_b Ms) _).mpr h)
  · intro h
    obtain ⟨i, rfl, _, hb⟩ := mem_lotI.mp h
    exact (mk9_bit _ (fl_b Ms) i).mp hb
/-! ### the rest of what is told -/
def restW (ns ws : List Int) : W (Tup (Tup Int)) := w_all_lots (ns.length : Int) >>= fun a3 => W.need (a3.length ≤ sizeLine) >>= fun _ => compW (fun _ => (pure true : W Bool)) (fun v : Tup Int => W.need (v.l.length ≤ sizeLine) >>= fun _ => compW (fun _ => (pure true : W Bool)) (fun i : Int => W.get (atI ns i)) v.l >>= fun a => (pure ⟨a⟩ : W (Tup Int))) a3 >>= fun a => W.need (a.length ≤ sizeLine) >>= fun _ => compW (fun v : Tup Int => w_set_of_Ti v >>= fun s => w_meets_all s ⟨ws⟩) (fun v : Tup Int => (pure v : W (Tup Int))) a >>= fun a => w_least_lots ⟨a⟩ >>= fun a => pure a
theorem g_rest {Ms Ws : List Nat} {U : Nat} (hU : U < 4096) (hW : ∀ X, hit Ws X ↔ hit Ms X) : Gv (restW (lotI U) (Ws.map fun M : Nat => (M : Int))) ⟨(resM Ms U).map lotT⟩ := by
  unfold restW
  have hk := lotI_len U
  have hl := all_len hk (lotI U).length
  refine (g_all_lots hk).bind (Gv.need' (by rw [List.length_map, sizeLine_eq]; omega) ?_)
  refine Gv.bind (g_allM (eb := fun t => (Tup.mk (t.map (numF (lotI U))) : Tup Int)) fun t ht => ?_) ?_
  · have a := ((mem_all _ t).mp ht).2
    have := as_len a
    refine Gv.need' (by show t.length ≤ sizeLine; rw [sizeLine_eq]; omega) (Gv.bind (Gv.all (eb := numF (lotI U)) fun i hi => Gv.get ?_) Gv.ret)
    have b := a.2 i hi
    obtain ⟨h1, h2⟩ := numF_get (ns := lotI U) (i := i) b
    unfold atI ixN
    rw [if_pos b.1, if_pos b.2]
    show (lotI U)[i.toNat]? = _
    rw [List.getElem?_eq_getElem h1, h2]
  · have e : (allL ((lotI U).length : Nat) (lotI U).length).map (fun t => (Tup.mk (t.map (numF (lotI U))) : Tup Int)) = (trM U).map lotT := by
      have h1 : (trM U).map lotT = ((trM U).map lotI).map Tup.mk := by rw [List.map_map]; rfl
      rw [h1, tr_lot]
      unfold trI
      rw [List.map_map]
      rfl
    rw [e]
    have hz : (trM U).length ≤ 4096 := by
      have : (trM U).length = (allL ((lotI U).length : Nat) (lotI U).length).length := by unfold trM trI; rw [List.length_map, List.length_map]
      omega
    refine Gv.need' (by rw [List.length_map, sizeLine_eq]; omega) (Gv.bind (Gv.compM (tb := fun M => decide (hit Ws M)) (eb := lotT) (fun M hM => ?_) fun _ _ _ => Gv.ret) ?_)
    · exact (g_setT ((mem_trM hU).mp hM).1).bind g_meets
    · have ef : (trM U).filter (fun M => decide (hit Ws M)) = (trM U).filter fun M => decide (hit Ms M) := List.filter_congr fun M _ => decide_eq_decide.mpr (hW M)
      rw [ef]
      refine (g_least_lots (fun M hM => ((mem_trM hU).mp (List.mem_filter.mp hM).1).1) ?_).bind Gv.ret
      have := List.length_filter_le (fun M => decide (hit Ms M)) (trM U)
      omega
def setsW (a : List (T2 Int (Tup Int))) : W (List Int) := W.need ((srtD a).length ≤ sizeLine) >>= fun _ => compW (fun _ => (pure true : W Bool)) (fun v : T2 Int (Tup Int) => (pure v.b : W (Tup Int))) (srtD a) >>= fun a => w_least_lots ⟨a⟩ >>= fun a => W.need (a.l.length ≤ sizeLine) >>= fun _ => compW (fun _ => (pure true : W Bool)) (fun v : Tup Int => w_set_of_Ti v) a.l >>= fun a => pure a
theorem g_sets {Ms : List Nat} (hb : ∀ M ∈ Ms, M < 4096) (hz : Ms.length ≤ 5000) : Gv (setsW (Ms.map prT)) ((kp [] (srtM Ms)).map fun M : Nat => (M : Int)) := by
  unfold setsW
  rw [srt_pr]
  have h5 : (kp [] (srtM Ms)).length ≤ 5000 := by
    have := (kp_sub0 (srtM Ms)).length_le
    rw [srtM_len] at this
    omega
  refine Gv.need' (by rw [List.length_map, srtM_len, sizeLine_eq]; omega) (Gv.bind (g_allM (eb := lotT) fun M _ => Gv.ret) ?_)
  refine (g_least_lots (fun M hM => hb M (mem_srtM.mp hM)) (by rw [srtM_len]; exact hz)).bind (Gv.need' (by show ((kp [] (srtM Ms)).map lotT).length ≤ sizeLine; rw [List.length_map, sizeLine_eq]; omega) ?_)
  exact Gv.bind (g_allM (eb := fun M : Nat => (M : Int)) fun M hM => g_setT (hb M (mem_srtM.mp ((kp_sub0 _).subset hM)))) Gv.ret
theorem hit_ws (Ms : List Nat) (X : Nat) : hit (kp [] (srtM Ms)) X ↔ hit Ms X := hit_kp.trans (hit_perm fun _ => mem_srtM)
def told9 (Ms : List Nat) : List Nat := resM Ms (UF Ms)
theorem g_meet_E {x : Sm2 (List (Sm2 (List Int) (Tup Int))) (Tup (Sm2 (List Int) (Tup Int)))} {Ms : List Nat} (hx : x.l.map Sm2.l = Ms.map lotI) (hb : ∀ M ∈ Ms, M < 4096) (hz : Ms.length ≤ 5000) : Gv (w_least_meeting x) ⟨(told9 Ms).map lotT⟩ := by
  have hlen : x.l.length = Ms.length := by have := congrArg List.length hx; simpa using this
  have hf : x.l.flatMap Sm2.l = Ms.flatMap lotI := by rw [List.flatMap_def, List.flatMap_def, hx]
  have gs : Gv (w_least_sets x) ((kp [] (srtM Ms)).map fun M : Nat => (M : Int)) := by
    unfold w_least_sets
    simp only [pb, ba, sq_nx, sq_rt, sq_b, fR_rt, fR_b, fN_nx, fN_b, setW, retW, dropW]
    refine Gv.need' (by rw [hlen, sizeLine_eq]; omega) (Gv.bind (Gv.all (eb := fun v : Sm2 (List Int) (Tup Int) => prI v.l) fun v _ => Gv.ret) ?_)
    have e : x.l.map (fun v : Sm2 (List Int) (Tup Int) => prI v.l) = Ms.map prT := by
      have : x.l.map (fun v : Sm2 (List Int) (Tup Int) => prI v.l) = (x.l.map Sm2.l).map prI := by rw [List.map_map]; rfl
      rw [this, hx, List.map_map]
      rfl
    rw [e]
    exact g_sets hb hz
  unfold w_least_meeting
  simp only [pb, ba, sq_nx, sq_rt, sq_b, fR_rt, fR_b, fN_nx, fN_b, setW, retW, dropW]
  refine Gv.bind (g_scW2 (g := Sm2.l) x.l [] (by rw [List.nil_append, hf]; exact fl_b Ms)) ?_
  rw [List.nil_append, hf]
  refine Gv.need' (by have := ddup_12 (fl_b Ms); omega) (gs.bind ?_)
  rw [srtU_fl]
  exact g_rest (UF_lt Ms) (hit_ws Ms)
theorem g_meet_T {Ms : List Nat} (hb : ∀ M ∈ Ms, M < 4096) (hz : Ms.length ≤ 5000) : Gv (w_least_meeting_TTi ⟨Ms.map lotT⟩) ⟨(told9 Ms).map lotT⟩ := by
  have hf : (Ms.map lotT).flatMap Tup.l = Ms.flatMap lotI := by rw [List.flatMap_map]; rfl
  have gs : Gv (w_least_sets_TTi ⟨Ms.map lotT⟩) ((kp [] (srtM Ms)).map fun M : Nat => (M : Int)) := by
    unfold w_least_sets_TTi
    simp only [pb, ba, sq_nx, sq_rt, sq_b, fR_rt, fR_b, fN_nx, fN_b, setW, retW, dropW]
    refine Gv.need' (by rw [List.length_map, sizeLine_eq]; omega) (Gv.bind (g_allM (eb := prT) fun v _ => Gv.ret) ?_)
    exact g_sets hb hz
  unfold w_least_meeting_TTi
  simp only [pb, ba, sq_nx, sq_rt, sq_b, fR_rt, fR_b, fN_nx, fN_b, setW, retW, dropW]
  refine Gv.bind (g_scW2 (g := Tup.l) _ [] (by rw [List.nil_append, hf]; exact fl_b Ms)) ?_
  rw [List.nil_append, hf]
  refine Gv.need' (by have := ddup_12 (fl_b Ms); omega) (gs.bind ?_)
  rw [srtU_fl]
  exact g_rest (UF_lt Ms) (hit_ws Ms)
theorem g_meet_R {Ms : List Nat} (hb : ∀ M ∈ Ms, M < 4096) (hz : Ms.length ≤ 5000) : Gv (w_least_meeting_RTi ⟨Ms.map lotT⟩) ⟨(told9 Ms).map lotT⟩ := by
  have hf : (Ms.map lotT).flatMap Tup.l = Ms.flatMap lotI := by rw [List.flatMap_map]; rfl
  have gs : Gv (w_least_sets_RTi ⟨Ms.map lotT⟩) ((kp [] (srtM Ms)).map fun M : Nat => (M : Int)) := by
    unfold w_least_sets_RTi
    simp only [pb, ba, sq_nx, sq_rt, sq_b, fR_rt, fR_b, fN_nx, fN_b, setW, retW, dropW]
    refine Gv.need' (by rw [List.length_map, sizeLine_eq]; omega) (Gv.bind (g_allM (eb := prT) fun v _ => Gv.ret) ?_)
    exact g_sets hb hz
  unfold w_least_meeting_RTi
  simp only [pb, ba, sq_nx, sq_rt, sq_b, fR_rt, fR_b, fN_nx, fN_b, setW, retW, dropW]
  refine Gv.bind (g_scW2 (g := Tup.l) _ [] (by rw [List.nil_append, hf]; exact fl_b Ms)) ?_
  rw [List.nil_append, hf]
  refine Gv.need' (by have := ddup_12 (fl_b Ms); omega) (gs.bind ?_)
  rw [srtU_fl]
  exact g_rest (UF_lt Ms) (hit_ws Ms)
theorem told_mem {Ms : List Nat} (hb : ∀ M ∈ Ms, M < 4096) (M : Nat) : M ∈ told9 Ms ↔ Mn Ms M := res_mem (UF_lt Ms) (UF_un hb) M
theorem told_pw (Ms : List Nat) : ((told9 Ms).map lotI).Pairwise ltK := res_pw Ms _
end TW
set_option Elab.async false
set_option maxRecDepth 100000
set_option maxHeartbeats 1000000
set_option linter.all false
set_option autoImplicit false
/-! k79: the law's side -/
namespace TW
open Pa (rep)
open PaL (repL)
open PySem PySem.Spec PyProof.Rows L2 My
theorem g_lot2 (M : Nat) : Gv (w_l_lot_2 M) ⟨lotI M⟩ := by
  unfold w_l_lot_2
  simp only [pb, ba, sq_nx, sq_rt, sq_b, fR_rt, fR_b, fN_nx, fN_b, setW, retW, dropW]
  refine Gv.need' ⟨by decide, by decide⟩ (Gv.need' (by rw [show ((12 : Int)).toNat = ((12 : Nat) : Int).toNat from rfl, rng0_len, sizeLine_eq]; omega) ?_)
  rw [show ((12 : Int)).toNat = ((12 : Nat) : Int).toNat from rfl, rngN]
  refine Gv.bind (Gv.compM (tb := fun i => M.testBit i) (eb := fun i : Nat => (i : Int)) (fun i hi => ?_) fun _ _ _ => Gv.ret) Gv.ret
  refine Gv.need' (Int.natCast_nonneg i) (Gv.ret.cast ?_)
  rw [Int.toNat_natCast, bit_test1]
theorem g_sorted {Fs R : List Nat} (nd : Fs.Nodup) (hz : Fs.length ≤ 5000) (hb : ∀ M ∈ Fs, M < 4096) (hR : (R.map lotI).Pairwise ltK) (hm : ∀ M, M ∈ R ↔ M ∈ Fs) : Gv (w_l_sorted ⟨Fs.map fun M : Nat => (M : Int)⟩) (R.map lotT) := by
  unfold w_l_sorted
  simp only [pb, ba, sq_nx, sq_rt, sq_b, fR_rt, fR_b, fN_nx, fN_b, setW, retW, dropW]
  refine Gv.need' (by rw [List.length_map, sizeLine_eq]; omega) (Gv.bind (g_allM (eb := prT) fun M hM => (g_lot2 M).bind ((g_lot2 M).bind Gv.ret)) ?_)
  rw [srt_pr, srtM_eq nd hb hR hm]
  have hl : R.length ≤ 5000 := by
    have := srtM_len Fs
    rw [srtM_eq nd hb hR hm] at this
    omega
  exact Gv.need' (by rw [List.length_map, sizeLine_eq]; omega) (g_allM (eb := lotT) fun M _ => Gv.ret)
theorem cpow12 {i : Nat} (h : i ≤ 1000) : CPow 1 (i : Int) := ⟨by omega, by omega, by decide⟩
theorem sum_lot {M : Nat} (h : M < 4096) : ((lotN M).map fun i : Nat => ((2 ^ i : Nat) : Int)).sum = (M : Int) := by
  unfold lotN
  rw [sum_bits]
  congr 1
  apply Nat.eq_of_testBit_eq
  intro i
  rw [Bool.eq_iff_iff, setN_bit, decide_eq_true_iff, List.mem_filter, List.mem_range]
  exact ⟨fun h => h.2, fun k => ⟨bit12 h k, k⟩⟩
theorem g_lset {M : Nat} (h : M < 4096) : Gv (w_l_set (lotT M)) (M : Int) := by
  unfold w_l_set
  simp only [pb, ba, sq_nx, sq_rt, sq_b, fR_rt, fR_b, fN_nx, fN_b, setW, retW, dropW]
  show Gv (W.need ((lotI M).length ≤ sizeLine) >>= _) _
  refine Gv.need' (by have := lotI_len M; rw [sizeLine_eq]; omega) (Gv.bind (a := (lotN M).map fun i : Nat => ((2 ^ i : Nat) : Int)) ?_ (Gv.ret.cast (sum_lot h)))
  show Gv (compW _ _ ((lotN M).map fun i : Nat => (i : Int))) _
  refine g_allM (eb := fun i : Nat => ((2 ^ i : Nat) : Int)) fun i hi => ?_
  have := (mem_lotN.mp hi).1
  exact Gv.need' (cpow12 (by omega)) (Gv.ret.cast (shl_eq i))
theorem g_lsetR {M : Nat} (h : M < 4096) : Gv (w_l_set_Ri ⟨(lotN M).map fun i : Nat => (i : Int)⟩) (M : Int) := by
  unfold w_l_set_Ri
  simp only [pb, ba, sq_nx, sq_rt, sq_b, fR_rt, fR_b, fN_nx, fN_b, setW, retW, dropW]
  have hl := lotN_len M
  refine Gv.need' (by rw [List.length_map, sizeLine_eq]; omega) (Gv.bind (a := (lotN M).map fun i : Nat => ((2 ^ i : Nat) : Int)) ?_ (Gv.ret.cast (sum_lot h)))
  refine g_allM (eb := fun i : Nat => ((2 ^ i : Nat) : Int)) fun i hi => ?_
  have := (mem_lotN.mp hi).1
  exact Gv.need' (cpow12 (by omega)) (Gv.ret.cast (shl_eq i))
/-! ### rows of the places -/
variable {P : Nat}
def plc (P i : Nat) : Nat := ((lotN P)[i]?).getD 0
theorem plc_get {P i : Nat} (h : i < (lotN P).length) : plc P i = (lotN P)[i] := by
  unfold plc
  rw [List.getElem?_eq_getElem h]
  rfl
theorem lotN_lt (M : Nat) : (lotN M).Pairwise (· < ·) := by
  unfold lotN
  exact List.Pairwise.filter _ List.pairwise_lt_range
theorem plc_inj {P i j : Nat} (hi : i < (lotN P).length) (hj : j < (lotN P).length) (e : plc P i = plc P j) : i = j := by
  rw [plc_get hi, plc_get hj] at e
  have p := List.pairwise_iff_getElem.mp (lotN_lt P)
  rcases Nat.lt_trichotomy i j with l | l | l
  · have := p i j hi hj l; omega
  · exact l
  · have := p j i hj hi l; omega
/-- the set that a row tells -/
def sub9 (P r : Nat) : Nat := setN (((List.range (lotN P).length).filter fun i => r.testBit i).map (plc P))
theorem sub_bit {P r n : Nat} : (sub9 P r).testBit n = true ↔ ∃ i, i < (lotN P).length ∧ r.testBit i = true ∧ plc P i = n := by
  unfold sub9
  rw [setN_bit, decide_eq_true_iff, List.mem_map]
  constructor
  · rintro ⟨i, hi, e⟩
    obtain ⟨a, b⟩ := List.mem_filter.mp hi
    exact ⟨i, List.mem_range.mp a, b, e⟩
  · rintro ⟨i, a, b, e⟩
    exact ⟨i, List.mem_filter.mpr ⟨List.mem_range.mpr a, b⟩, e⟩
theorem plc_bit {P i : Nat} (h : i < (lotN P).length) : plc P i < 12 ∧ P.testBit (plc P i) = true := by
  rw [plc_get h]
  exact mem_lotN.mp (List.getElem_mem h)
theorem sub_sb (P r : Nat) : Sb (sub9 P r) P := sb_iff.mpr fun n hn => by
  obtain ⟨i, a, _, rfl⟩ := sub_bit.mp hn
  exact (plc_bit a).2
theorem sub_lt (P r : Nat) : sub9 P r < 4096 := lt_4096 fun n hn => by
  obtain ⟨i, a, _, rfl⟩ := sub_bit.mp hn
  exact (plc_bit a).1
theorem sub_inj {P r s : Nat} (hr : r < 2 ^ (lotN P).length) (hs : s < 2 ^ (lotN P).length) (e : sub9 P r = sub9 P s) : r = s := by
  have key : ∀ {r s : Nat}, r < 2 ^ (lotN P).length → sub9 P r = sub9 P s → ∀ i, r.testBit i = true → s.testBit i = true := fun {r s} hr e i hi => by
    have hl : i < (lotN P).length := by
      refine Decidable.byContradiction fun k => ?_
      rw [Nat.testBit_lt_two_pow (Nat.lt_of_lt_of_le hr (Nat.pow_le_pow_right (by decide) (by omega)))] at hi
      cases hi
    obtain ⟨j, a, b, c⟩ := sub_bit.mp (e ▸ sub_bit.mpr ⟨i, hl, hi, rfl⟩)
    rw [plc_inj a hl c] at b
    exact b
  apply Nat.eq_of_testBit_eq
  intro i
  rw [Bool.eq_iff_iff]
  exact ⟨key hr e i, key hs e.symm i⟩
theorem sub_surj {P M : Nat} (h : Sb M P) (hM : M < 4096) : ∃ r, r < 2 ^ (lotN P).length ∧ sub9 P r = M := by
  have rb : ∀ i, (setN ((List.range (lotN P).length).filter fun i => M.testBit (plc P i))).testBit i = true ↔ i < (lotN P).length ∧ M.testBit (plc P i) = true := fun i => by
    rw [setN_bit, decide_eq_true_iff, List.mem_filter, List.mem_range]
  refine ⟨setN ((List.range (lotN P).length).filter fun i => M.testBit (plc P i)), Nat.lt_pow_two_of_testBit _ fun i hi => ?_, ?_⟩
  · rw [Bool.eq_false_iff]
    intro z
    have := ((rb i).mp z).1
    omega
  · apply Nat.eq_of_testBit_eq
    intro n
    rw [Bool.eq_iff_iff, sub_bit]
    constructor
    · rintro ⟨i, a, b, rfl⟩
      exact ((rb i).mp b).2
    · intro hn
      have : n ∈ lotN P := mem_lotN.mpr ⟨bit12 hM hn, sb_iff.mp h n hn⟩
      obtain ⟨i, hi, ei⟩ := List.mem_iff_getElem.mp this
      have e : plc P i = n := by rw [plc_get hi]; exact ei
      exact ⟨i, hi, (rb i).mpr ⟨hi, by rw [e]; exact hn⟩, e⟩
/-- without one number -/
def wo (M n : Nat) : Nat := (SN.mk M (2 ^ n) true).b
theorem wo_bit {M n i : Nat} : (wo M n).testBit i = true ↔ M.testBit i = true ∧ i ≠ n := by
  unfold wo
  rw [SN.b_bit]
  show (M.testBit i && !(2 ^ n).testBit i) = true ↔ _
  rw [Nat.testBit_two_pow, Bool.and_eq_true]
  simp only [Bool.not_eq_true', decide_eq_false_iff_not]
  exact ⟨fun h => ⟨h.1, fun e => h.2 e.symm⟩, fun h => ⟨h.1, fun e => h.2 e.symm⟩⟩
def okM (Ms : List Nat) (P M : Nat) : Bool := decide (hit Ms M) && !((lotN P).filter fun n => M.testBit n).any fun n => decide (hit Ms (wo M n))
theorem okM_iff {Ms : List Nat} {P M : Nat} (hM : M < 4096) (s : Sb M P) : okM Ms P M = true ↔ Mn Ms M := by
  unfold okM Mn
  rw [Bool.and_eq_true, decide_eq_true_iff, Bool.not_eq_true', Bool.eq_false_iff]
  constructor
  · rintro ⟨h1, h2⟩
    refine ⟨hM, h1, fun N hN hh sn => Classical.byContradiction fun ne => h2 ?_⟩
    have : ∃ n, M.testBit n = true ∧ N.testBit n = false := by
      refine Classical.byContradiction fun z => ne (sb_anti sn (sb_iff.mpr fun i hi => ?_))
      cases e : N.testBit i with
      | true => rfl
      | false => exact (z ⟨i, hi, e⟩).elim
    obtain ⟨n, a, b⟩ := this
    refine List.any_eq_true.mpr ⟨n, List.mem_filter.mpr ⟨mem_lotN.mpr ⟨bit12 hM a, sb_iff.mp s n a⟩, a⟩, decide_eq_true (hit_mono hh (sb_iff.mpr fun i hi => ?_))⟩
    exact wo_bit.mpr ⟨sb_iff.mp sn i hi, fun e => by rw [e, b] at hi; cases hi⟩
  · rintro ⟨_, h1, mn⟩
    refine ⟨h1, fun z => ?_⟩
    obtain ⟨n, hn, hh⟩ := List.any_eq_true.mp z
    obtain ⟨_, hb⟩ := List.mem_filter.mp hn
    have sw : Sb (wo M n) M := sb_iff.mpr fun i hi => (wo_bit.mp hi).1
    have e := mn _ (Nat.lt_of_le_of_lt (sb_le sw) hM) (of_decide_eq_true hh) sw
    have : (wo M n).testBit n = true := by rw [e]; exact hb
    exact (wo_bit.mp this).2 rfl
def fndL (Ms : List Nat) (P : Nat) : List Nat := ((List.range (2 ^ (lotN P).length)).map (sub9 P)).filter (okM Ms P)
theorem fnd_nodup (Ms : List Nat) (P : Nat) : (fndL Ms P).Nodup := by
  unfold fndL
  refine List.Nodup.sublist List.filter_sublist (List.pairwise_map.mpr ((List.Pairwise.and_mem.mp List.nodup_range).imp fun {a b} ⟨h1, h2, h3⟩ e => h3 ?_))
  exact sub_inj (List.mem_range.mp h1) (List.mem_range.mp h2) e
theorem fnd_lt {Ms : List Nat} {P M : Nat} (h : M ∈ fndL Ms P) : M < 4096 := by
  obtain ⟨r, _, rfl⟩ := List.mem_map.mp (List.mem_filter.mp h).1
  exact sub_lt P r
theorem fnd_mem {Ms : List Nat} {P : Nat} (hP : ∀ M ∈ Ms, Sb M P) (M : Nat) : M ∈ fndL Ms P ↔ Mn Ms M := by
  unfold fndL
  rw [List.mem_filter, List.mem_map]
  constructor
  · rintro ⟨⟨r, _, rfl⟩, h⟩
    exact (okM_iff (sub_lt P r) (sub_sb P r)).mp h
  · intro h
    have s : Sb M P := by
      have e : M &&& P = M := by
        refine h.2.2 _ (Nat.lt_of_le_of_lt Nat.and_le_left h.1) (fun X hX => ?_) (sb_iff.mpr fun i hi => ?_)
        · obtain ⟨i, a, b⟩ := meet_ne.mp (h.2.1 X hX)
          exact meet_ne.mpr ⟨i, by rw [Nat.testBit_and, a, sb_iff.mp (hP X hX) i b]; rfl, b⟩
        · rw [Nat.testBit_and, Bool.and_eq_true] at hi
          exact hi.1
      exact e
    obtain ⟨r, hr, e⟩ := sub_surj s h.1
    exact ⟨⟨r, List.mem_range.mpr hr, e⟩, (okM_iff h.1 s).mpr h⟩
theorem fnd_len {Ms : List Nat} {P : Nat} : (fndL Ms P).length ≤ 4096 := by
  unfold fndL
  refine Nat.le_trans (List.length_filter_le _ _) ?_
  rw [List.length_map, List.length_range]
  exact Nat.le_trans (Nat.pow_le_pow_right (by decide) (lotN_len P)) (by decide)
end TW
set_option Elab.async false
set_option maxRecDepth 100000
set_option maxHeartbeats 1000000
set_option linter.all false
set_option autoImplicit false
/-! k79: the law's least lots by all rows, its barest ones -/
namespace TW
open Pa (rep)
open PaL (repL)
open PySem PySem.Spec PyProof.Rows L2 My
theorem row_lot (P r : Nat) : (((List.range (lotN P).length).filter fun i => r.testBit i).map (plc P)) = lotN (sub9 P r) := by
  refine ext_lt (r := fun a b : Nat => a < b) (fun a b h k => by omega) ?_ (lotN_lt _) fun n => ?_
  · refine List.pairwise_map.mpr ((List.Pairwise.and_mem.mp (List.Pairwise.filter _ List.pairwise_lt_range)).imp fun {i j} ⟨h1, h2, h3⟩ => ?_)
    have hi := List.mem_range.mp (List.mem_filter.mp h1).1
    have hj := List.mem_range.mp (List.mem_filter.mp h2).1
    rw [plc_get hi, plc_get hj]
    exact List.pairwise_iff_getElem.mp (lotN_lt P) i j hi hj h3
  · rw [mem_lotN, sub_bit, List.mem_map]
    constructor
    · rintro ⟨i, hi, e⟩
      obtain ⟨a, b⟩ := List.mem_filter.mp hi
      have a := List.mem_range.mp a
      exact ⟨by rw [← e]; exact (plc_bit a).1, i, a, b, e⟩
    · rintro ⟨_, i, a, b, e⟩
      exact ⟨i, List.mem_filter.mpr ⟨List.mem_range.mpr a, b⟩, e⟩
theorem enum_plc (P : Nat) : enumL ((lotN P).map fun n : Nat => (n : Int)) = (List.range (lotN P).length).map fun i : Nat => (⟨(i : Int), (plc P i : Int)⟩ : T2 Int Int) := by
  unfold enumL
  refine List.ext_getElem (by simp) fun i h1 h2 => ?_
  have hi : i < (lotN P).length := by simpa using h2
  simp [plc_get hi]
theorem hit_all (Ms : List Nat) (X : Nat) : (Ms.map fun M => decide (X &&& M ≠ 0)).all id = decide (hit Ms X) := by
  rw [List.all_map, Bool.eq_iff_iff, List.all_eq_true, decide_eq_true_iff]
  unfold hit
  refine forall_congr' fun M => forall_congr' fun _ => ?_
  show decide (X &&& M ≠ 0) = true ↔ _
  rw [decide_eq_true_iff]
theorem g_hits {Ms : List Nat} {X : Nat} : Gv (compW (fun _ => (pure true : W Bool)) (fun x : Int => (pure (!pyEq (Builtin.bitAnd (X : Int) x) (0 : Int)) : W Bool)) (Ms.map fun M : Nat => (M : Int))) (Ms.map fun M => decide (X &&& M ≠ 0)) := by
  refine g_allM (eb := fun M => decide (X &&& M ≠ 0)) fun M _ => Gv.ret.cast ?_
  rw [bitAnd_nat, pyEq_ii]
  show (!decide _) = decide _
  by_cases h : X &&& M = 0
  · rw [h]; rfl
  · rw [decide_eq_true h]
    have : ((X &&& M : Nat) : Int) ≠ 0 := by omega
    rw [decide_eq_false this]
    rfl
theorem wo_eq (M n : Nat) : Builtin.bitAnd (M : Int) (Builtin.bitNot ((1 : Int) * 2 ^ ((n : Int)).toNat)) = (wo M n : Int) := by
  rw [shl_eq, bitAnd_notnat]
  rfl
theorem g_meeting {Ms : List Nat} {P : Nat} (hP : P < 4096) (hz : Ms.length ≤ 5000) : Gv (w_l_meeting ⟨Ms.map fun M : Nat => (M : Int)⟩ ⟨(lotN P).map fun n : Nat => (n : Int)⟩) ((fndL Ms P).map fun M : Nat => (M : Int)) := by
  unfold w_l_meeting
  simp only [pb, ba, sq_nx, sq_rt, sq_b, fR_rt, fR_b, fN_nx, fN_b, setW, retW, dropW]
  have hk := lotN_len P
  have h2 : 2 ^ (lotN P).length ≤ 4096 := Nat.le_trans (Nat.pow_le_pow_right (by decide) hk) (by decide)
  have es : (1 : Int) * 2 ^ ((((lotN P).map fun n : Nat => (n : Int)).length : Nat) : Int).toNat = ((2 ^ (lotN P).length : Nat) : Int) := by rw [List.length_map]; exact shl_eq _
  have eb : (((2 ^ (lotN P).length : Nat) : Int)) ≤ 4096 := Int.ofNat_le.mpr h2
  have e0 : (0 : Int) ≤ (((2 ^ (lotN P).length : Nat) : Int)) := Int.natCast_nonneg _
  refine (g_lsetR hP).bind (Gv.need' (by simp) (Gv.need' (by rw [List.length_map]; exact cpow12 (by omega)) ?_))
  rw [es, rngN]
  refine Gv.need' ⟨Int.le_trans (by decide) e0, Int.lt_of_le_of_lt eb (by decide)⟩ (Gv.fR (Gv.bind (a := .nx ((fndL Ms P).map fun M : Nat => (M : Int))) ?_ Gv.ret))
  refine (Rn.mono (Rn.forC (fun j s => s = ((((List.range (2 ^ (lotN P).length)).map (sub9 P)).take j).filter (okM Ms P)).map fun M : Nat => (M : Int)) (by simp) fun j x s hx hI => ?_) ?_).gv
  · subst hI
    rw [List.getElem?_map, Option.map_eq_some_iff] at hx
    obtain ⟨r, hr, rfl⟩ := hx
    obtain ⟨hj, er⟩ := List.getElem?_eq_some_iff.mp hr
    rw [List.getElem_range] at er
    subst er
    rw [List.length_range] at hj
    have et : ((List.range (2 ^ (lotN P).length)).map (sub9 P)).take (j + 1) = ((List.range (2 ^ (lotN P).length)).map (sub9 P)).take j ++ [sub9 P j] := by
      rw [List.take_add_one, List.getElem?_map, hr]; rfl
    have lf : ((((List.range (2 ^ (lotN P).length)).map (sub9 P)).take j).filter (okM Ms P)).length ≤ 4096 := by
      refine Nat.le_trans (List.length_filter_le _ _) ?_
      rw [List.length_take, List.length_map, List.length_range]
      omega
    rw [et, List.filter_append, List.map_append]
    have hM := sub_lt P j
    have hs := sub_sb P j
    refine Rn.need (by rw [enum_plc, List.length_map, List.length_range, sizeLine_eq]; omega) ?_
    rw [enum_plc]
    refine Gv.bindR (Gv.compM (tb := fun i => j.testBit i) (eb := fun i => ((2 ^ plc P i : Nat) : Int)) (fun i _ => ?_) fun i hi _ => ?_) ?_
    · refine Gv.need' (Int.natCast_nonneg i) (Gv.ret.cast ?_)
      show pyEq (Builtin.bitAnd ((j : Int) / 2 ^ ((i : Int)).toNat) 1) (1 : Int) = _
      rw [Int.toNat_natCast, bit_test1]
    · have := (plc_bit (List.mem_range.mp hi)).1
      exact Gv.need' (cpow12 (by omega)) (Gv.ret.cast (shl_eq _))
    · have e1 : (((List.range (lotN P).length).filter fun i => j.testBit i).map fun i => ((2 ^ plc P i : Nat) : Int)).sum = (sub9 P j : Int) := by
        have : (((List.range (lotN P).length).filter fun i => j.testBit i).map fun i => ((2 ^ plc P i : Nat) : Int)) = (lotN (sub9 P j)).map fun i : Nat => ((2 ^ i : Nat) : Int) := by
          rw [← row_lot, List.map_map]; rfl
        rw [this, sum_lot hM]
      rw [e1]
      refine Rn.need (by rw [List.length_map, sizeLine_eq]; omega) (Gv.bindR g_hits ?_)
      rw [hit_all]
      by_cases c : hit Ms (sub9 P j)
      · rw [decide_eq_true c]
        simp only [Bool.not_true, Bool.false_eq_true, if_false]
        simp only [pb, ba, sq_nx, sq_rt, sq_b, fR_rt, fR_b, fN_nx, fN_b, setW, retW, dropW]
        refine Rn.need (by rw [List.length_map, sizeLine_eq]; omega) (Gv.bindR (Gv.compM (tb := fun n => (sub9 P j).testBit n) (eb := fun n => (wo (sub9 P j) n : Int)) (fun n _ => ?_) fun n hn _ => ?_) ?_)
        · refine Gv.need' (Int.natCast_nonneg n) (Gv.ret.cast ?_)
          rw [Int.toNat_natCast, bit_test1]
        · have := (mem_lotN.mp hn).1
          exact Gv.need' (cpow12 (by omega)) (Gv.ret.cast (wo_eq _ _))
        · have l9 : ((lotN P).filter fun n => (sub9 P j).testBit n).length ≤ 12 := Nat.le_trans (List.length_filter_le _ _) hk
          refine Rn.need (by rw [List.length_map, sizeLine_eq]; omega) (Gv.bindR (g_allM (eb := fun n => decide (hit Ms (wo (sub9 P j) n))) fun n _ => Gv.need' (by rw [List.length_map, sizeLine_eq]; omega) (g_hits.bind (Gv.ret.cast (hit_all _ _)))) ?_)
          have ea : (((lotN P).filter fun n => (sub9 P j).testBit n).map fun n => decide (hit Ms (wo (sub9 P j) n))).any id = ((lotN P).filter fun n => (sub9 P j).testBit n).any fun n => decide (hit Ms (wo (sub9 P j) n)) := by rw [List.any_map]; rfl
          rw [ea]
          cases d : ((lotN P).filter fun n => (sub9 P j).testBit n).any fun n => decide (hit Ms (wo (sub9 P j) n)) with
          | true =>
            have ok : okM Ms P (sub9 P j) = false := by unfold okM; rw [d]; simp
            rw [List.filter_cons_of_neg (by rw [ok]; exact Bool.false_ne_true)]
            exact Rn.ret ⟨_, .inl rfl, by simp⟩
          | false =>
            have ok : okM Ms P (sub9 P j) = true := by unfold okM; rw [d, decide_eq_true c]; rfl
            rw [List.filter_cons_of_pos ok]
            simp only [Bool.not_false, if_true]
            simp only [pb, ba, sq_nx, sq_rt, sq_b, fR_rt, fR_b, fN_nx, fN_b, setW, retW, dropW]
            refine Rn.need (by rw [List.length_map, sizeLine_eq]; omega) (Rn.ret ⟨_, .inl rfl, ?_⟩)
            rw [bitAnd_nat, hs]
            rfl
      · rw [decide_eq_false c]
        have ok : okM Ms P (sub9 P j) = false := by unfold okM; rw [decide_eq_false c]; rfl
        rw [List.filter_cons_of_neg (by rw [ok]; exact Bool.false_ne_true)]
        exact Rn.ret ⟨_, .inr rfl, by simp⟩
  · rintro r ⟨s', rfl, rfl⟩
    rw [List.length_map, List.length_range]
    unfold fndL
    rw [List.take_of_length_le (by rw [List.length_map, List.length_range]; exact Nat.le_refl _)]
theorem r_barest {Ms : List Nat} (hz : Ms.length ≤ 5000) : Rn (w_l_barest ⟨Ms.map fun M : Nat => (M : Int)⟩) fun l => ∃ F : List Nat, l = F.map (fun M : Nat => (M : Int)) ∧ F.Nodup ∧ F.length ≤ 5000 ∧ ∀ M, M ∈ F ↔ M ∈ Ms ∧ ∀ N ∈ Ms, Sb N M → N = M := by
  unfold w_l_barest
  simp only [pb, ba, sq_nx, sq_rt, sq_b, fR_rt, fR_b, fN_nx, fN_b, setW, retW, dropW]
  refine Rn.need (by simp) (Rn.fR (Rn.seq (T := fun s => ∃ F : List Nat, s = F.map (fun M : Nat => (M : Int)) ∧ F.Nodup ∧ F.length ≤ 5000 ∧ ∀ M, M ∈ F ↔ M ∈ Ms ∧ ∀ N ∈ Ms, Sb N M → N = M) ?_ fun s hs => Rn.ret ⟨s, rfl, hs⟩))
  refine Rn.mono (Rn.forL (fun j s => ∃ F : List Nat, s = F.map (fun M : Nat => (M : Int)) ∧ F.Nodup ∧ F.length ≤ j ∧ ∀ M, M ∈ F ↔ M ∈ Ms.take j ∧ ∀ N ∈ Ms, Sb N M → N = M) ⟨[], rfl, .nil, Nat.le_refl _, by simp⟩ fun j x s hx hI => ?_) ?_
  · obtain ⟨F, rfl, nd, lf, mf⟩ := hI
    rw [List.getElem?_map, Option.map_eq_some_iff] at hx
    obtain ⟨M, hM, rfl⟩ := hx
    have hj := (List.getElem?_eq_some_iff.mp hM).1
    have et : Ms.take (j + 1) = Ms.take j ++ [M] := by rw [List.take_add_one, hM]; rfl
    have ein : inF (M : Int) (F.map fun M : Nat => (M : Int)) = decide (M ∈ F) := by
      rw [inF_ii]
      refine decide_eq_decide.mpr ?_
      rw [List.mem_map]
      constructor
      · rintro ⟨N, hN, e⟩
        rw [← Int.ofNat_inj.mp e]; exact hN
      · exact fun h => ⟨M, h, rfl⟩
    have gv : Gv (compW (fun _ => (pure true : W Bool)) (fun x : Int => if (!pyEq x (M : Int)) = true then (pure (pyEq (Builtin.bitAnd x (M : Int)) x) : W Bool) else (pure false : W Bool)) (Ms.map fun M : Nat => (M : Int))) (Ms.map fun N => decide (N ≠ M ∧ Sb N M)) := by
      refine g_allM (eb := fun N => decide (N ≠ M ∧ Sb N M)) fun N _ => ?_
      by_cases e : N = M
      · subst e
        rw [pyEq_t, if_neg (by decide)]
        exact Gv.ret.cast (by simp)
      · rw [pyEq_f (show (N : Int) ≠ (M : Int) by omega), if_pos (show (!false) = true from rfl)]
        refine Gv.ret.cast ?_
        rw [bitAnd_nat, pyEq_ii, Bool.eq_iff_iff, decide_eq_true_iff, decide_eq_true_iff]
        unfold Sb
        exact ⟨fun h => ⟨e, Int.ofNat_inj.mp h⟩, fun h => congrArg _ h.2⟩
    have ean : (Ms.map fun N => decide (N ≠ M ∧ Sb N M)).any id = !decide (∀ N ∈ Ms, Sb N M → N = M) := by
      rw [List.any_map, Bool.eq_iff_iff, List.any_eq_true, Bool.not_eq_true', decide_eq_false_iff_not]
      constructor
      · rintro ⟨N, hN, h⟩ z
        have h := of_decide_eq_true h
        exact h.1 (z N hN h.2)
      · intro z
        simp only [Classical.not_forall] at z
        obtain ⟨N, hN, s, ne⟩ := z
        exact ⟨N, hN, decide_eq_true ⟨ne, s⟩⟩
    rw [ein]
    refine Gv.bindR (a := decide (M ∉ F ∧ ∀ N ∈ Ms, Sb N M → N = M)) ?_ ?_
    · by_cases c : M ∈ F
      · rw [decide_eq_true c, if_neg (by decide)]
        exact Gv.ret.cast (by simp [c])
      · rw [decide_eq_false c, if_pos (show (!false) = true from rfl)]
        refine Gv.need' (by rw [List.length_map, sizeLine_eq]; omega) (gv.bind (Gv.ret.cast ?_))
        rw [ean, Bool.not_not]
        simp [c]
    · by_cases c : M ∉ F ∧ ∀ N ∈ Ms, Sb N M → N = M
      · rw [decide_eq_true c, if_pos rfl]
        simp only [pb, ba, sq_nx, sq_rt, sq_b, fR_rt, fR_b, fN_nx, fN_b, setW, retW, dropW]
        refine Rn.need (by rw [List.length_map, sizeLine_eq]; omega) (Rn.ret ⟨_, rfl, F ++ [M], by simp, ?_, by simp; omega, fun X => ?_⟩)
        · exact List.nodup_append.mpr ⟨nd, List.pairwise_singleton _ _, fun a ha b hb e => by rw [List.mem_singleton] at hb; subst hb; subst e; exact c.1 ha⟩
        · rw [et, List.mem_append, List.mem_append, mf X, List.mem_singleton]
          constructor
          · rintro (⟨h1, h2⟩ | rfl)
            · exact ⟨.inl h1, h2⟩
            · exact ⟨.inr rfl, c.2⟩
          · rintro ⟨h1 | h1, h2⟩
            · exact .inl ⟨h1, h2⟩
            · exact .inr h1
      · rw [decide_eq_false c, if_neg Bool.false_ne_true]
        refine Rn.ret ⟨_, rfl, F, rfl, nd, by omega, fun X => ?_⟩
        rw [mf X, et, List.mem_append, List.mem_singleton]
        constructor
        · exact fun ⟨h1, h2⟩ => ⟨.inl h1, h2⟩
        · rintro ⟨h1 | h1, h2⟩
          · exact ⟨h1, h2⟩
          · subst h1
            have : X ∈ F := Classical.byContradiction fun z => c ⟨z, h2⟩
            exact (mf X).mp this
  · rintro r ⟨s', rfl, F, e, nd, lf, mf⟩
    rw [List.length_map] at lf mf
    exact ⟨s', rfl, F, e, nd, by omega, fun M => by rw [mf M, List.take_length]⟩
end TW
set_option Elab.async false
set_option maxRecDepth 100000
set_option maxHeartbeats 1000000
set_option linter.all false
set_option autoImplicit false
/-! k79: places drawn; a thousand lots -/
namespace TW
open Pa (rep)
open PaL (repL)
open PySem PySem.Spec PyProof.Rows L2 My
theorem sz5000 (k : Nat) (h : k ≤ 5000) : k ≤ sizeLine := by rw [sizeLine_eq]; omega
/-- different numbers, sorted -/
theorem srt_lot {l : List Int} (nd : l.Nodup) (h : ∀ x ∈ l, 0 ≤ x ∧ x < 12) : srtD l = lotI (mk9 l) := by
  rw [srtD_int]
  have p := List.mergeSort_perm l (fun a b : Int => decide (a ≤ b))
  have s : (l.mergeSort fun a b : Int => decide (a ≤ b)).Pairwise fun a b => decide (a ≤ b) = true := List.pairwise_mergeSort (fun a b c h1 h2 => by simp at *; omega) (fun a b => by simp; omega) _
  have nd2 : (l.mergeSort fun a b : Int => decide (a ≤ b)).Nodup := p.nodup_iff.mpr nd
  have s2 : (l.mergeSort fun a b : Int => decide (a ≤ b)).Pairwise (· < ·) := (s.and nd2).imp fun {a b} ⟨h1, h2⟩ => by
    have h1 := of_decide_eq_true h1
    omega
  refine asc_ext s2 (lotI_lt _) fun x => ?_
  rw [p.mem_iff]
  constructor
  · intro hx
    have b := h x hx
    have e : x = ((x.toNat : Nat) : Int) := (Int.toNat_of_nonneg b.1).symm
    rw [e] at hx ⊢
    exact (mem_lot' (mk9_lt l h)).mpr ((mk9_bit l h _).mpr hx)
  · intro hx
    obtain ⟨i, rfl, _, hb⟩ := mem_lotI.mp hx
    exact (mk9_bit l h i).mp hb
theorem r_places (b : Bag) (k : Int) (h : 1 ≤ k ∧ k ≤ 9) : Rn (w_l_places_Bagi b k) fun l => ∃ P : Nat, P < 4096 ∧ l = (lotN P).map (fun n : Nat => (n : Int)) ∧ 1 ≤ (lotN P).length := by
  unfold w_l_places_Bagi
  simp only [pb, ba, sq_nx, sq_rt, sq_b, fR_rt, fR_b, fN_nx, fN_b, setW, retW, dropW]
  have e12 : rngL 0 (Int.toNat 12) = (List.range 12).map fun d : Nat => (d : Int) := by rw [show (Int.toNat 12) = ((12 : Nat) : Int).toNat from rfl, rngN]
  rw [e12]
  refine Rn.need ⟨by decide, by decide⟩ (Rn.need (sz5000 _ (by simp)) (Gv.bindR (Gv.all (eb := fun x : Int => x) fun x _ => Gv.ret) (Rn.need (by simp) (Rn.need ⟨by omega, by omega⟩ ?_))))
  have er : (rngL 0 k.toNat).length = k.toNat := by unfold rngL; simp
  refine Rn.fR (Rn.seq (T := fun s : List Int × List Int => (s.1 ++ s.2).Perm ((List.range 12).map fun d : Nat => (d : Int)) ∧ s.2.length = k.toNat) ?_ fun s ⟨hp, hl⟩ => Rn.ret ⟨_, rfl, ?_⟩)
  · refine (Rn.forL (fun j (s : List Int × List Int) => (s.1 ++ s.2).Perm ((List.range 12).map fun d : Nat => (d : Int)) ∧ s.2.length = j) ⟨by simp; exact List.Perm.refl _, rfl⟩ fun j x s hx hI => ?_).mono fun r ⟨s, e, hI⟩ => ⟨s, e, by rw [er] at hI; exact hI⟩
    obtain ⟨hp, hl⟩ := hI
    have hj : j < k.toNat := by
      have := (List.getElem?_eq_some_iff.mp hx).1
      omega
    have len := hp.length_eq
    rw [List.length_append, List.length_map, List.length_range] at len
    refine (r_take b _ (by omega) (big8000 (by omega))).bind fun r ⟨h0, h1⟩ => ?_
    obtain ⟨i, rfl⟩ := Int.eq_ofNat_of_zero_le h0
    have hi : i < s.1.length := by omega
    refine Rn.need ⟨by omega, by omega, by omega⟩ (Rn.need (by rw [sizeLine_eq]; omega) (Rn.ret ⟨_, rfl, ?_, by simp [hl]⟩))
    rw [Int.toNat_natCast, List.getD_eq_getElem?_getD, List.getElem?_eq_getElem hi]
    show (s.1.eraseIdx i ++ (s.2 ++ [s.1[i]])).Perm _
    have p1 : (s.1[i] :: s.1.eraseIdx i).Perm s.1 := erase_perm hi
    refine List.Perm.trans ?_ ((p1.append_right s.2).trans hp)
    rw [List.cons_append, ← List.append_assoc]
    exact List.perm_append_comm
  · have nd : (s.1 ++ s.2).Nodup := hp.nodup_iff.mpr (List.pairwise_map.mpr ((List.Pairwise.and_mem.mp List.nodup_range).imp fun {a b} ⟨_, _, h3⟩ e => h3 (Int.ofNat_inj.mp e)))
    have nd2 := (List.nodup_append.mp nd).2.1
    have bd : ∀ x ∈ s.2, 0 ≤ x ∧ x < 12 := fun x hx => by
      have := hp.mem_iff.mp (List.mem_append_right s.1 hx)
      obtain ⟨d, hd, rfl⟩ := List.mem_map.mp this
      have := List.mem_range.mp hd
      omega
    have e := srt_lot nd2 bd
    refine ⟨mk9 s.2, mk9_lt _ bd, e, ?_⟩
    have : (srtD s.2).length = s.2.length := by unfold srtD; rw [List.length_mergeSort]
    rw [e] at this
    unfold lotI at this
    rw [List.length_map] at this
    omega
/-! ### a thousand lots -/
def othM (f : Nat) : Nat := setN ((List.range 12).filter fun i => decide (i ≠ f))
theorem oth_bit {f i : Nat} : (othM f).testBit i = true ↔ i < 12 ∧ i ≠ f := by
  unfold othM
  rw [setN_bit, decide_eq_true_iff, List.mem_filter, List.mem_range, decide_eq_true_iff]
theorem oth_lt (f : Nat) : othM f < 4096 := lt_4096 fun i h => (oth_bit.mp h).1
theorem oth_lot (f : Nat) : lotN (othM f) = (List.range 12).filter fun i => decide (i ≠ f) := by
  unfold lotN
  refine List.filter_congr fun i hi => ?_
  have := List.mem_range.mp hi
  rw [Bool.eq_iff_iff, oth_bit, decide_eq_true_iff]
  exact ⟨fun h => h.2, fun h => ⟨this, h⟩⟩
theorem oth_len : ∀ f, f < 12 → (lotN (othM f)).length = 11 := by
  intro f hf
  rw [oth_lot]
  have : ∀ f, f < 12 → ((List.range 12).filter fun i => decide (i ≠ f)).length = 11 := by decide
  exact this f hf
theorem two9_bit {f i : Nat} : (2 ^ f).testBit i = true ↔ f = i := by rw [Nat.testBit_two_pow]; simp
theorem two9_lt {f : Nat} (h : f < 12) : 2 ^ f < 4096 := lt_4096 fun i hi => by rw [← two9_bit.mp hi]; exact h
theorem two9_lot {f : Nat} (h : f < 12) : lotI (2 ^ f) = [(f : Int)] := by
  refine asc_ext (lotI_lt _) (List.pairwise_singleton _ _) fun x => ?_
  rw [List.mem_singleton]
  constructor
  · intro hx
    obtain ⟨i, rfl, _, hb⟩ := mem_lotI.mp hx
    rw [two9_bit.mp hb]
  · rintro rfl
    exact (mem_lot' (two9_lt h)).mpr (two9_bit.mpr rfl)
/-- the least lots that meet all pairs with f -/
theorem told_many {f : Nat} (hf : f < 12) {Ms : List Nat} (h1 : ∀ M ∈ Ms, ∃ o, o < 12 ∧ o ≠ f ∧ M = 2 ^ f ||| 2 ^ o) (h2 : ∀ o, o < 12 → o ≠ f → 2 ^ f ||| 2 ^ o ∈ Ms) : told9 Ms = [2 ^ f, othM f] := by
  have pb : ∀ o i, (2 ^ f ||| 2 ^ o).testBit i = true ↔ f = i ∨ o = i := fun o i => by rw [Nat.testBit_or, Bool.or_eq_true, two9_bit, two9_bit]
  have hb : ∀ M ∈ Ms, M < 4096 := fun M hM => by
    obtain ⟨o, ho, _, rfl⟩ := h1 M hM
    exact lt_4096 fun i hi => by rcases (pb o i).mp hi with e | e <;> omega
  have hh : ∀ X, hit Ms X ↔ X.testBit f = true ∨ ∀ o, o < 12 → o ≠ f → X.testBit o = true := fun X => by
    constructor
    · intro h
      by_cases c : X.testBit f = true
      · exact .inl c
      · refine .inr fun o ho hne => ?_
        obtain ⟨i, a, b⟩ := meet_ne.mp (h _ (h2 o ho hne))
        rcases (pb o i).mp b with e | e
        · rw [← e] at a; exact (c a).elim
        · rw [e]; exact a
    · rintro (h | h) M hM
      · obtain ⟨o, ho, hne, rfl⟩ := h1 M hM
        exact meet_ne.mpr ⟨f, h, (pb o f).mpr (.inl rfl)⟩
      · obtain ⟨o, ho, hne, rfl⟩ := h1 M hM
        exact meet_ne.mpr ⟨o, h o ho hne, (pb o o).mpr (.inr rfl)⟩
  have sA : ∀ {X}, X.testBit f = true → Sb (2 ^ f) X := fun {X} h => sb_iff.mpr fun i hi => by rw [← two9_bit.mp hi]; exact h
  have sB : ∀ {X}, (∀ o, o < 12 → o ≠ f → X.testBit o = true) → Sb (othM f) X := fun {X} h => sb_iff.mpr fun i hi => h i (oth_bit.mp hi).1 (oth_bit.mp hi).2
  have hA : hit Ms (2 ^ f) := (hh _).mpr (.inl (two9_bit.mpr rfl))
  have hB : hit Ms (othM f) := (hh _).mpr (.inr fun o ho hne => oth_bit.mpr ⟨ho, hne⟩)
  have mem : ∀ X, X ∈ told9 Ms ↔ X ∈ [2 ^ f, othM f] := fun X => by
    rw [told_mem hb]
    simp only [List.mem_cons, List.not_mem_nil, or_false]
    constructor
    · rintro ⟨hX, hx, mn⟩
      rcases (hh X).mp hx with c | c
      · exact .inl (mn _ (two9_lt hf) hA (sA c)).symm
      · exact .inr (mn _ (oth_lt f) hB (sB c)).symm
    · rintro (rfl | rfl)
      · refine ⟨two9_lt hf, hA, fun N hN hn s => ?_⟩
        rcases (hh N).mp hn with c | c
        · exact sb_anti s (sA c)
        · have : ∃ o, o < 12 ∧ o ≠ f := by
            by_cases e : f = 0
            · exact ⟨1, by omega, by omega⟩
            · exact ⟨0, by omega, by omega⟩
          obtain ⟨o, ho, hne⟩ := this
          have := two9_bit.mp (sb_iff.mp s o (c o ho hne))
          exact (hne this.symm).elim
      · refine ⟨oth_lt f, hB, fun N hN hn s => ?_⟩
        rcases (hh N).mp hn with c | c
        · exact ((oth_bit.mp (sb_iff.mp s f c)).2 rfl).elim
        · exact sb_anti s (sB c)
  have pw := told_pw Ms
  rw [List.pairwise_map] at pw
  refine ext_lt (r := fun a b => ltK (lotI a) (lotI b)) (fun a b h k => ltK_asym _ _ h k) pw ?_ mem
  refine List.pairwise_cons.mpr ⟨fun X hX => ?_, List.pairwise_singleton _ _⟩
  rw [List.mem_singleton.mp hX]
  refine .inl ?_
  rw [two9_lot hf]
  unfold lotI
  rw [List.length_map, oth_len f hf]
  show 1 < 11
  decide
/-- the other number of the k-th lot -/
def oo9 (f t k : Nat) : Nat := (numF (lotI (othM f)) ((k * (1 + t) % 11 : Nat) : Int)).toNat
def mk99 (f t k : Nat) : Nat := 2 ^ f ||| 2 ^ oo9 f t k
variable {f t k : Nat}
theorem oth_l11 (hf : f < 12) : (lotI (othM f)).length = 11 := by unfold lotI; rw [List.length_map]; exact oth_len f hf
theorem oo_ob (hf : f < 12) (k : Nat) : oo9 f t k < 12 ∧ oo9 f t k ≠ f ∧ ((oo9 f t k : Nat) : Int) = numF (lotI (othM f)) ((k * (1 + t) % 11 : Nat) : Int) := by
  have hm : numF (lotI (othM f)) ((k * (1 + t) % 11 : Nat) : Int) ∈ lotI (othM f) := numF_mem ⟨by omega, by rw [oth_l11 hf]; have := Nat.mod_lt (k * (1 + t)) (show 0 < 11 by decide); omega⟩
  obtain ⟨i, e, hi, hb⟩ := mem_lotI.mp hm
  have eo : oo9 f t k = i := by unfold oo9; rw [e, Int.toNat_natCast]
  rw [eo, e]
  exact ⟨hi, (oth_bit.mp hb).2, rfl⟩
theorem mk_b (i : Nat) : (mk99 f t k).testBit i = true ↔ f = i ∨ oo9 f t k = i := by unfold mk99; rw [Nat.testBit_or, Bool.or_eq_true, two9_bit, two9_bit]
theorem mk_l (hf : f < 12) (k : Nat) : mk99 f t k < 4096 := lt_4096 fun i hi => by
  have := (oo_ob (t := t) hf k).1
  rcases (mk_b i).mp hi with e | e <;> omega
theorem mk_srt (hf : f < 12) (k : Nat) : srtD [(f : Int), ((oo9 f t k : Nat) : Int)] = lotI (mk99 f t k) := by
  have o := oo_ob (t := t) hf k
  have bd : ∀ x ∈ [(f : Int), ((oo9 f t k : Nat) : Int)], 0 ≤ x ∧ x < 12 := fun x hx => by
    simp only [List.mem_cons, List.not_mem_nil, or_false] at hx
    rcases hx with e | e <;> omega
  rw [srt_lot (List.nodup_cons.mpr ⟨by simp; omega, List.pairwise_singleton _ _⟩) bd]
  congr 1
  apply Nat.eq_of_testBit_eq
  intro i
  rw [Bool.eq_iff_iff, mk9_bit _ bd, mk_b]
  simp only [List.mem_cons, List.not_mem_nil, or_false]
  omega
theorem res11 : ∀ t, t < 10 → ∀ q, q < 11 → ∃ k, k < 11 ∧ k * (1 + t) % 11 = q := by decide
theorem told_mk (hf : f < 12) (ht : t < 10) {n : Nat} (hn : 11 ≤ n) : told9 ((List.range n).map (mk99 f t)) = [2 ^ f, othM f] := by
  refine told_many hf (fun M hM => ?_) fun o ho hne => ?_
  · obtain ⟨k, _, rfl⟩ := List.mem_map.mp hM
    exact ⟨oo9 f t k, (oo_ob hf k).1, (oo_ob hf k).2.1, rfl⟩
  · have hm : (o : Int) ∈ lotI (othM f) := (mem_lot' (oth_lt f)).mpr (oth_bit.mpr ⟨ho, hne⟩)
    obtain ⟨q, hq, eq⟩ := List.mem_iff_getElem.mp hm
    obtain ⟨k, hk, ek⟩ := res11 t ht q (by rw [oth_l11 hf] at hq; exact hq)
    refine List.mem_map.mpr ⟨k, List.mem_range.mpr (by omega), ?_⟩
    have eo : oo9 f t k = o := by
      unfold oo9
      rw [ek]
      unfold numF
      rw [Int.toNat_natCast, List.getElem?_eq_getElem hq, eq]
      rfl
    unfold mk99
    rw [eo]
theorem g_meet_many (hf : f < 12) (ht : t < 10) {n : Nat} (hn : 11 ≤ n) (hz : n ≤ 5000) : Gv (w_least_meeting_RTi ⟨((List.range n).map (mk99 f t)).map lotT⟩) ⟨[⟨[(f : Int)]⟩, ⟨lotI (othM f)⟩]⟩ := by
  have gm := g_meet_R (Ms := (List.range n).map (mk99 f t)) (fun M hM => by obtain ⟨k, _, rfl⟩ := List.mem_map.mp hM; exact mk_l hf k) (by rw [List.length_map, List.length_range]; exact hz)
  rw [told_mk hf ht hn] at gm
  refine gm.cast ?_
  show ({ l := [lotT (2 ^ f), lotT (othM f)] } : Tup (Tup Int)) = _
  unfold lotT
  rw [two9_lot hf]
theorem at_oth (hf : f < 12) (j : Nat) : atI (lotI (othM f)) ((j : Int) * (1 + (t : Int)) % 11) = some ((oo9 f t j : Nat) : Int) := by
  have ei : (j : Int) * (1 + (t : Int)) % 11 = ((j * (1 + t) % 11 : Nat) : Int) := by
    rw [Int.natCast_emod, Int.natCast_mul, Int.natCast_add]
    rfl
  have bm : j * (1 + t) % 11 < 11 := Nat.mod_lt _ (by decide)
  rw [ei, (oo_ob hf j).2.2]
  obtain ⟨g1, g2⟩ := numF_get (ns := lotI (othM f)) (i := ((j * (1 + t) % 11 : Nat) : Int)) ⟨by omega, by rw [oth_l11 hf]; omega⟩
  unfold atI ixN
  rw [if_pos (Int.natCast_nonneg _), if_pos (by rw [oth_l11 hf]; omega)]
  show (lotI (othM f))[_]? = _
  rw [List.getElem?_eq_getElem g1, g2]
theorem mulW (j t : Nat) (hj : j < 1000) (ht : t < 10) : CMulW (j : Int) (1 + (t : Int)) := by
  show (j : Int).natAbs.log2 + (1 + (t : Int)).natAbs.log2 < 1000000
  have l1 : (j : Int).natAbs.log2 ≤ (j : Int).natAbs := Nat.log2_le_self _
  have l2 : (1 + (t : Int)).natAbs.log2 ≤ (1 + (t : Int)).natAbs := Nat.log2_le_self _
  omega
theorem r_lots (hf : f < 12) (ht : t < 10) {n : Nat} (hn : n ≤ 1000) {L : Type} : Rn (forW (L := L) (fun (v5_x : Int) (v6_s : List (Tup Int)) => W.need (CMulW v5_x (1 + (t : Int))) >>= fun _ => W.need ((0 : Int) < 11) >>= fun _ => W.get (atI (lotI (othM f)) (v5_x * (1 + (t : Int)) % 11)) >>= fun a_9 => W.need ([(f : Int), a_9].length ≤ sizeLine) >>= fun _ => W.need (v6_s.length < sizeLine) >>= fun _ => (pure (Res.nx (v6_s ++ [{ l := srtD [(f : Int), a_9] }])) : W (Res (List (Tup Int)) Bool (List (Tup Int))))) ((List.range n).map fun d : Nat => (d : Int)) []) fun r => ∃ s, r = .nx s ∧ s = ((List.range n).map (mk99 f t)).map lotT := by
  refine (Rn.forL (fun j s => s = ((List.range j).map (mk99 f t)).map lotT) rfl fun j x s hx hI => ?_).mono fun r ⟨s, e, hI⟩ => ⟨s, e, by rw [List.length_map, List.length_range] at hI; exact hI⟩
  subst hI
  rw [List.getElem?_map, Option.map_eq_some_iff] at hx
  obtain ⟨k, hk, rfl⟩ := hx
  obtain ⟨hj, ej⟩ := List.getElem?_eq_some_iff.mp hk
  rw [List.getElem_range] at ej
  subst ej
  rw [List.length_range] at hj
  refine Rn.need (mulW j t (by omega) ht) (Rn.need (by decide) (Gv.bindR (Gv.get (at_oth hf j)) (Rn.need (sz5000 _ (by simp)) (Rn.need (by simp only [List.length_map, List.length_range]; rw [sizeLine_eq]; omega) (Rn.ret ⟨_, rfl, ?_⟩)))))
  rw [mk_srt hf, List.range_succ, List.map_append, List.map_append]
  rfl
end TW
set_option Elab.async false
set_option maxRecDepth 100000
set_option maxHeartbeats 1000000
set_option linter.all false
set_option autoImplicit false
/-! k79: the thousand lots as drawn -/
namespace TW
open Pa (rep)
open PaL (repL)
open PySem PySem.Spec PyProof.Rows L2 My
theorem r_many (b : Bag) : Rn (w_l_many b) (· = true) := by
  unfold w_l_many
  generalize hN : (pure 1000 : W Int) = N
  obtain ⟨n, hn, hg⟩ : ∃ n : Nat, n = 1000 ∧ Gv N (n : Int) := ⟨1000, rfl, by rw [← hN]; exact Gv.ret⟩
  clear hN
  simp -implicitDefEqProofs only [pb, ba, sq_nx, sq_rt, sq_b, fR_rt, fR_b, fN_nx, fN_b, setW, retW, dropW]
  have e12 : rngL 0 (Int.toNat 12) = (List.range 12).map fun d : Nat => (d : Int) := by rw [show (Int.toNat 12) = ((12 : Nat) : Int).toNat from rfl, rngN]
  rw [e12]
  refine (r_take b 12 (by decide) (big8000 (by omega))).bind fun r ⟨h0, h1⟩ => ?_
  obtain ⟨f, rfl⟩ := Int.eq_ofNat_of_zero_le h0
  have hf : f < 12 := by omega
  refine Rn.need ⟨by decide, by decide⟩ (Rn.need (sz5000 _ (by simp)) (Gv.bindR (Gv.compM (tb := fun i : Nat => decide (i ≠ f)) (eb := fun i : Nat => (i : Int)) (fun i _ => Gv.ret.cast ?_) fun i _ _ => Gv.ret) ?_))
  · by_cases e : i = f
    · subst e
      show (!pyEq (i : Int) (i : Int)) = _
      rw [pyEq_t]
      simp
    · show (!pyEq (i : Int) (f : Int)) = _
      rw [pyEq_f (by omega), decide_eq_true e]
      rfl
  rw [← oth_lot]
  have eL : (lotN (othM f)).map (fun i : Nat => (i : Int)) = lotI (othM f) := rfl
  rw [eL]
  refine (r_take b 10 (by decide) (big8000 (by omega))).bind fun r ⟨h0, h1⟩ => ?_
  obtain ⟨t, rfl⟩ := Int.eq_ofNat_of_zero_le h0
  have ht : t < 10 := by omega
  refine Rn.need (by simp) (Gv.bindR hg (Rn.need ⟨by omega, by omega⟩ (Rn.fR (Rn.seq (T := fun s => s = ((List.range n).map (mk99 f t)).map lotT) ?_ ?_))))
  · rw [rngN]
    exact r_lots hf ht (by omega)
  rintro s rfl
  refine Gv.bindR (g_meet_many hf ht (by omega) (by omega)) (Rn.need (sz5000 _ (by simp)) (Rn.need (sz5000 _ (by simp)) (Rn.need ⟨shd_dn _, shd_dn _⟩ ?_)))
  rw [dtEq_dn, decide_eq_true rfl, if_pos rfl]
  refine Gv.bindR (a := true) (hg.bind (Gv.ret.cast ?_)) (Rn.ret ⟨_, rfl, rfl⟩)
  rw [List.length_map, List.length_map, List.length_range, pyEq_t]
end TW
set_option Elab.async false
set_option maxRecDepth 100000
set_option maxHeartbeats 1000000
set_option linter.all false
set_option autoImplicit false
/-! k79: the law -/
namespace TW
open Pa (rep)
open PaL (repL)
open PySem PySem.Spec PyProof.Rows L2 My
theorem rn_map {α β γ τ : Type} {e : α → W β} {g : γ → α} {h : β → τ} {k : γ → τ} : ∀ {xs : List γ}, (∀ x ∈ xs, Rn (e (g x)) fun y => h y = k x) → Rn (compW (fun _ => (pure true : W Bool)) e (xs.map g)) fun l => l.map h = xs.map k
  | [], _ => Rn.ret rfl
  | x :: xs, hh => by
    have h1 := hh x List.mem_cons_self
    have h2 := rn_map fun y hy => hh y (List.mem_cons_of_mem _ hy)
    rw [List.map_cons, List.map_cons]
    unfold compW
    refine Gv.bindR (a := true) (Gv.ret (a := true)).quiet ?_
    rw [if_pos rfl]
    refine h1.quiet.bind fun y hy => h2.bind fun l hl => Rn.ret ?_
    rw [List.map_cons, hy, hl]
theorem told_len {Ms : List Nat} : (told9 Ms).length ≤ 4096 := by
  have := asc_count (L := (told9 Ms).map lotI) ((told_pw Ms).imp fun {a b} h e => by subst e; exact ltK_irr _ h) fun l hl => by
    obtain ⟨M, _, rfl⟩ := List.mem_map.mp hl
    exact ⟨lotI_lt M, lotI_b⟩
  rwa [List.length_map] at this
def LtOk (P : Nat) (Ms : List Nat) : Prop := ∀ M ∈ Ms, M < 4096 ∧ Sb M P
theorem r_law79 (ns : List Int) (h : ns.length ≤ 63) : Rn (w_law_11 ⟨ns⟩) (· = true) := by
  unfold w_law_11
  simp -implicitDefEqProofs only [pb, ba, sq_nx, sq_rt, sq_b, fR_rt, fR_b, fN_nx, fN_b, setW, retW, dropW]
  refine Gv.bindR (g_bag ns 0 h (by decide) (by decide)) ((r_take ⟨⟩ 16 (by decide) (big8000 (by omega))).bind fun g _ => ?_)
  refine Rn.bind (T := fun k : Int => 1 ≤ k ∧ k ≤ 9) (Rn.ite (fun _ => Rn.ret (by omega)) fun _ => (r_take ⟨⟩ 7 (by decide) (big8000 (by omega))).bind fun b hb => Rn.ret (by omega)) fun k hk => ?_
  refine (r_places ⟨⟩ k hk).bind ?_
  rintro _ ⟨P, hP, rfl, h1⟩
  refine Rn.need (by simp) (Gv.bindR (g_bag ns 1 h (by decide) (by decide)) ?_)
  refine Rn.bind (T := fun k : Int => 1 ≤ k ∧ k ≤ 13) (Rn.ite (fun _ => Rn.ret (by omega)) fun _ => Rn.ret (by omega)) fun m hm => ?_
  refine (r_take ⟨⟩ m (by omega) (big8000 (by omega))).bind fun q ⟨q0, q1⟩ => Rn.need ⟨by omega, by omega⟩ ?_
  have hk12 := lotN_len P
  have es : (1 : Int) * 2 ^ ((((lotN P).map fun n : Nat => (n : Int)).length : Nat) : Int).toNat = ((2 ^ (lotN P).length : Nat) : Int) := by rw [List.length_map]; exact shl_eq _
  have h2 : 2 ^ (lotN P).length ≤ 4096 := Nat.le_trans (Nat.pow_le_pow_right (by decide) hk12) (by decide)
  have h3 : 0 < 2 ^ (lotN P).length := Nat.pow_pos (by decide)
  rw [es]
  generalize hK : 2 ^ (lotN P).length = K at h2 h3
  have er : (rngL 0 q.toNat).length = q.toNat := by unfold rngL; simp
  refine Rn.fR (Rn.seq (T := fun s : List (Tup Int) => ∃ Ms, s = Ms.map lotT ∧ Ms.length ≤ 13 ∧ LtOk P Ms) ?_ ?_)
  · refine (Rn.forL (fun j (s : List (Tup Int)) => ∃ Ms, s = Ms.map lotT ∧ Ms.length = j ∧ LtOk P Ms) ⟨[], rfl, rfl, fun M hM => by simp at hM⟩ fun j x s hx hI => ?_).mono fun r ⟨s, e, Ms, e2, e3, e4⟩ => ⟨s, e, Ms, e2, by rw [er] at e3; omega, e4⟩
    obtain ⟨Ms, rfl, hl, ok⟩ := hI
    have hj : j < 13 := by
      have := (List.getElem?_eq_some_iff.mp hx).1
      omega
    have cp : CPow 1 ((((lotN P).map fun n : Nat => (n : Int)).length : Nat) : Int) := by rw [List.length_map]; exact cpow12 (by omega)
    refine Rn.need cp ((r_take ⟨⟩ _ (by omega) (big8000 (by omega))).bind fun r ⟨r0, r1⟩ => Rn.need cp ((r_take ⟨⟩ _ (by omega) (big8000 (by omega))).bind fun r2 ⟨s0, s1⟩ => Rn.need (sz5000 _ (by simp)) ((r_of ⟨⟩ [4095, 4095, r2] (by simp) (by simp)).bind fun t ht => ?_)))
    obtain ⟨r, rfl⟩ := Int.eq_ofNat_of_zero_le r0
    have ht : 0 ≤ t := by
      simp only [List.mem_cons, List.not_mem_nil, or_false] at ht
      omega
    obtain ⟨t, rfl⟩ := Int.eq_ofNat_of_zero_le ht
    rw [bitAnd_nat]
    refine Rn.bind (T := fun _ => True) (Rn.ite (fun _ => (r_take ⟨⟩ 4 (by decide) (big8000 (by omega))).bind fun _ _ => Rn.ret trivial) fun _ => Rn.ret trivial) fun c _ => ?_
    refine Rn.seq (T := fun v : Int => ∃ q : Nat, v = (q : Int)) (Rn.ite (fun _ => ?_) fun _ => Rn.ret ⟨_, rfl, _, rfl⟩) ?_
    · refine (r_take ⟨⟩ _ (by rw [List.length_map]; omega) (big8000 (by rw [List.length_map]; omega))).bind fun a ⟨a0, a1⟩ => ?_
      rw [List.length_map] at a1
      obtain ⟨a, rfl⟩ := Int.eq_ofNat_of_zero_le a0
      exact Rn.need (cpow12 (by omega)) (Rn.ret ⟨_, rfl, _, shl_eq a⟩)
    rintro _ ⟨v, rfl⟩
    refine Rn.need (by simp) (Rn.need ⟨shd_dn _, shd_dn _⟩ ?_)
    refine Rn.bind (T := fun b : Bool => b = true → Ms ≠ []) (Rn.ite (fun c => (r_take ⟨⟩ 6 (by decide) (big8000 (by omega))).bind fun _ _ => Rn.ret fun _ z => ?_) fun _ => Rn.ret fun z => nomatch z) fun d hd => ?_
    · subst z
      rw [dtEq_dn] at c
      simp at c
    refine Rn.seq (T := fun s : List (Tup Int) => ∃ Ms, s = Ms.map lotT ∧ Ms.length = j + 1 ∧ LtOk P Ms) (Rn.ite (fun e => ?_) fun e => ?_) fun s hs => Rn.ret ⟨s, rfl, hs⟩
    · refine (r_ofT ⟨⟩ (Ms.map lotT) (by have := hd e; simpa using this) (by rw [List.length_map]; omega)).bind fun a ha => ?_
      obtain ⟨M, hM, rfl⟩ := List.mem_map.mp ha
      refine Rn.need (by rw [List.length_map, sizeLine_eq]; omega) (Rn.ret ⟨_, rfl, Ms ++ [M], by simp, by simp [hl], fun X hX => ?_⟩)
      rcases List.mem_append.mp hX with hX | hX
      · exact ok X hX
      · rw [List.mem_singleton.mp hX]; exact ok M hM
    · rw [enum_plc]
      refine Rn.need (by rw [List.length_map, List.length_range, sizeLine_eq]; omega) (Gv.bindR (Gv.compM (tb := fun i => v.testBit i) (eb := fun i => ((plc P i : Nat) : Int)) (fun i _ => ?_) fun i _ _ => Gv.ret) (Rn.need (by rw [List.length_map, sizeLine_eq]; omega) (Rn.ret ⟨_, rfl, Ms ++ [sub9 P v], ?_, by simp [hl], fun X hX => ?_⟩)))
      · refine Gv.need' (Int.natCast_nonneg i) (Gv.ret.cast ?_)
        show pyEq (Builtin.bitAnd ((v : Int) / 2 ^ ((i : Int)).toNat) 1) (1 : Int) = _
        rw [Int.toNat_natCast, bit_test1]
      · rw [List.map_append]
        have : (((List.range (lotN P).length).filter fun i => v.testBit i).map fun i => ((plc P i : Nat) : Int)) = lotI (sub9 P v) := by
          unfold lotI
          rw [← row_lot, List.map_map]
          rfl
        rw [this]
        rfl
      · rcases List.mem_append.mp hX with hX | hX
        · exact ok X hX
        · rw [List.mem_singleton.mp hX]; exact ⟨sub_lt P v, sub_sb P v⟩
  · rintro s ⟨Ms, rfl, hl, ok⟩
    have hb : ∀ M ∈ Ms, M < 4096 := fun M hM => (ok M hM).1
    have hs : ∀ M ∈ Ms, Sb M P := fun M hM => (ok M hM).2
    refine Rn.need (by rw [List.length_map, sizeLine_eq]; omega) (Rn.bind (T := fun v : List (Sm2 (List Int) (Tup Int)) => v.map Sm2.l = Ms.map lotI) (rn_map fun M _ => (r_take ⟨⟩ 3 (by decide) (big8000 (by omega))).bind fun a _ => Rn.ite (fun _ => Rn.ret rfl) fun _ => Rn.ret rfl) fun v hv => ?_)
    have lv : v.length = Ms.length := by have := congrArg List.length hv; simpa using this
    refine Rn.need (by rw [sizeLine_eq]; omega) (Gv.bindR (Gv.all (eb := fun b : Sm2 (List Int) (Tup Int) => b.l) fun _ _ => Gv.ret) ((r_take ⟨⟩ 2 (by decide) (big8000 (by omega))).bind fun a _ => ?_))
    refine Rn.bind (T := fun x : Sm2 (List (Sm2 (List Int) (Tup Int))) (Tup (Sm2 (List Int) (Tup Int))) => x.l = v) (Rn.ite (fun _ => Rn.ret rfl) fun _ => Rn.ret rfl) fun x hx => ?_
    refine Gv.bindR (g_meet_E (Ms := Ms) (by rw [hx]; exact hv) hb (by omega)) (Rn.need (by rw [List.length_map, sizeLine_eq]; omega) (Gv.bindR (g_allM (eb := fun M : Nat => (M : Int)) fun M hM => g_lset (hb M hM)) ?_))
    have tl := told_len (Ms := Ms)
    have tb : ∀ M ∈ told9 Ms, M < 4096 := fun M hM => ((told_mem hb M).mp hM).1
    refine Gv.bindR (a := false) ?_ (Rn.seq (T := fun _ => True) (Rn.ret ⟨(), rfl, trivial⟩) fun _ _ => Rn.seq (T := fun _ => True) ((Rn.forL (I := fun _ _ => True) trivial fun j x s hx _ => ?_).mono fun q ⟨u, e, _⟩ => ⟨u, e, trivial⟩) fun _ _ => ?_)
    · rw [if_neg (by decide)]
      refine Gv.need' (by show ((told9 Ms).map lotT).length ≤ sizeLine; rw [List.length_map, sizeLine_eq]; omega) (Gv.bind (Gv.all (eb := fun _ => true) fun _ _ => Gv.ret) (Gv.ret.cast ?_))
      simp
    · have hx : ((told9 Ms).map lotT)[j]? = some x := hx
      rw [List.getElem?_map, Option.map_eq_some_iff] at hx
      obtain ⟨M, _, rfl⟩ := hx
      have := lotI_len M
      refine Rn.need (by show (lotI M).length ≤ sizeLine; rw [sizeLine_eq]; omega) (Gv.bindR (Gv.all (eb := fun _ => true) fun x _ => ?_) ?_)
      · unfold w_l_is_number
        simp only [pb, ba, sq_nx, sq_rt, sq_b, fR_rt, fR_b, fN_nx, fN_b, setW, retW, dropW]
        exact Gv.ret
      · rw [if_neg (by simp)]
        exact Rn.seq (T := fun _ => True) (Rn.ret ⟨(), rfl, trivial⟩) fun _ _ => Rn.ret ⟨_, rfl, trivial⟩
    refine Gv.bindR (g_meeting hP (by omega)) (Gv.bindR (g_sorted (R := told9 Ms) (fnd_nodup Ms P) (by have := fnd_len (Ms := Ms) (P := P); omega) (fun M hM => fnd_lt hM) (told_pw Ms) fun M => (told_mem hb M).trans (fnd_mem hs M).symm) (Rn.need ⟨shd_dn _, shd_dn _⟩ ?_))
    rw [dtEq_dn, decide_eq_true rfl, if_neg (by decide)]
    refine Rn.seq (T := fun _ => True) (Rn.ret ⟨(), rfl, trivial⟩) fun _ _ => Rn.need (by rw [sizeLine_eq]; omega) (Gv.bindR (Gv.all (eb := fun b : Sm2 (List Int) (Tup Int) => b.l) fun _ _ => Gv.ret) (Rn.need ⟨shd_dn _, shd_dn _⟩ ?_))
    rw [dtEq_dn, decide_eq_true rfl, if_neg (by decide), hx, lv, List.length_map, pyEq_t]
    refine Gv.bindR (a := false) (Gv.ret (a := false)) ?_
    rw [if_neg Bool.false_ne_true]
    refine Rn.seq (T := fun _ => True) (Rn.ret ⟨(), rfl, trivial⟩) fun _ _ => Gv.bindR (g_meet_T tb (by omega)) ((r_barest (by omega)).bind ?_)
    rintro _ ⟨F, rfl, nd, lf, mf⟩
    refine Gv.bindR (g_sorted (R := told9 (told9 Ms)) nd lf (fun M hM => hb M ((mf M).mp hM).1) (told_pw _) fun M => ?_) (Rn.need ⟨shd_dn _, shd_dn _⟩ ?_)
    · rw [told_mem tb, mf M]
      exact twice hb (told_mem hb)
    rw [dtEq_dn, decide_eq_true rfl, if_neg (by decide)]
    refine Rn.seq (T := fun _ => True) (Rn.ret ⟨(), rfl, trivial⟩) fun _ _ => (r_take ⟨⟩ 12 (by decide) (big8000 (by omega))).bind fun a _ => ?_
    exact Rn.bind (T := fun b => b = true) (Rn.ite (fun _ => Rn.ret rfl) fun _ => r_many ⟨⟩) fun b hb => Rn.ret ⟨_, rfl, hb⟩
theorem law_true_k79 : ∀ ns : List Int, ns.length ≤ 63 → (w_law_11 ⟨ns⟩).run (fun b => b = true) fun _ => False := fun ns h => r_law79 ns h _ _ fun _ e => e
end TW
/-! k79: the law (law_true_k79 of XJ) with its defs -/
set_option Elab.async false
set_option maxRecDepth 100000
set_option maxHeartbeats 8000000
set_option linter.all false
set_option autoImplicit false

namespace TW
open Pa (rep)
open PaL (repL)
open PySem PySem.Spec PyProof.Rows L2 My

theorem all_mk {P : Program} {w : World} {K : PySem.W.Frag} {h : Heap} {mg : Str → Option Value} {fa : Addr} (X : K.In h) (G : h.Ns mainGlobals mg) (hfa : mg "law" = some (.ref fa))
    {fp0 : Addr} {odp0 anp0 : Option Addr} {slp0 : Array (Option Value)} {ocp0 kVp0 dcp0 pmp0 cdp0 ctp0 : Value}
    {fp1 : Addr} {odp1 anp1 : Option Addr} {slp1 : Array (Option Value)} {ocp1 kVp1 dcp1 pmp1 cdp1 ctp1 : Value}
    {fp2 : Addr} {odp2 anp2 : Option Addr} {slp2 : Array (Option Value)} {ocp2 kVp2 dcp2 pmp2 cdp2 ctp2 : Value}
    {fp3 : Addr} {odp3 anp3 : Option Addr} {slp3 : Array (Option Value)} {ocp3 kVp3 dcp3 pmp3 cdp3 ctp3 : Value}
    {fp4 : Addr} {odp4 anp4 : Option Addr} {slp4 : Array (Option Value)} {ocp4 kVp4 dcp4 pmp4 cdp4 ctp4 : Value}
    {fp5 : Addr} {odp5 anp5 : Option Addr} {slp5 : Array (Option Value)} {ocp5 kVp5 dcp5 pmp5 cdp5 ctp5 : Value}
    {fp6 : Addr} {odp6 anp6 : Option Addr} {slp6 : Array (Option Value)} {ocp6 kVp6 dcp6 pmp6 cdp6 ctp6 : Value}
    {fp7 : Addr} {odp7 anp7 : Option Addr} {slp7 : Array (Option Value)} {ocp7 kVp7 dcp7 pmp7 cdp7 ctp7 : Value}
    {fp8 : Addr} {odp8 anp8 : Option Addr} {slp8 : Array (Option Value)} {ocp8 kVp8 dcp8 pmp8 cdp8 ctp8 : Value}
    {fp9 : Addr} {odp9 anp9 : Option Addr} {slp9 : Array (Option Value)} {ocp9 kVp9 dcp9 pmp9 cdp9 ctp9 : Value}
    {fp10 : Addr} {odp10 anp10 : Option Addr} {slp10 : Array (Option Value)} {ocp10 kVp10 dcp10 pmp10 cdp10 ctp10 : Value}
    {fp11 : Addr} {odp11 anp11 : Option Addr} {slp11 : Array (Option Value)} {ocp11 kVp11 dcp11 pmp11 cdp11 ctp11 : Value}
    {fp12 : Addr} {odp12 anp12 : Option Addr} {slp12 : Array (Option Value)} {ocp12 kVp12 dcp12 pmp12 cdp12 ctp12 : Value}
    {fp13 : Addr} {odp13 anp13 : Option Addr} {slp13 : Array (Option Value)} {ocp13 kVp13 dcp13 pmp13 cdp13 ctp13 : Value}
    {fp14 : Addr} {odp14 anp14 : Option Addr} {slp14 : Array (Option Value)} {ocp14 kVp14 dcp14 pmp14 cdp14 ctp14 : Value}
    {fp15 : Addr} {odp15 anp15 : Option Addr} {slp15 : Array (Option Value)} {ocp15 kVp15 dcp15 pmp15 cdp15 ctp15 : Value}
    {fp16 : Addr} {odp16 anp16 : Option Addr} {slp16 : Array (Option Value)} {ocp16 kVp16 dcp16 pmp16 cdp16 ctp16 : Value}
    {fp17 : Addr} {odp17 anp17 : Option Addr} {slp17 : Array (Option Value)} {ocp17 kVp17 dcp17 pmp17 cdp17 ctp17 : Value}
    {fp18 : Addr} {odp18 anp18 : Option Addr} {slp18 : Array (Option Value)} {ocp18 kVp18 dcp18 pmp18 cdp18 ctp18 : Value}
    {fp19 : Addr} {odp19 anp19 : Option Addr} {slp19 : Array (Option Value)} {ocp19 kVp19 dcp19 pmp19 cdp19 ctp19 : Value}
    (lp0 : K.lookup fp0 = some ⟨ocp0, odp0, .func (PySem.W.fnOf "_law_bag" "_law_bag" (defArgs s_l_bag) (defBody s_l_bag) (defScope s_l_bag) .none kVp0 dcp0 pmp0 anp0 cdp0 ctp0), slp0⟩)
    (cp0 : PySem.W.codeIn K cdp0 "_law_bag" = true)
    (kp0 : PySem.W.keepIn K (.ref fp0) = true)
    (ap0 : PySem.W.nsIn K mainGlobals "_law_bag" = some (some (.ref fp0)))
    (lp1 : K.lookup fp1 = some ⟨ocp1, odp1, .func (PySem.W.fnOf "_law_take" "_law_take" (defArgs s_l_take) (defBody s_l_take) (defScope s_l_take) .none kVp1 dcp1 pmp1 anp1 cdp1 ctp1), slp1⟩)
    (cp1 : PySem.W.codeIn K cdp1 "_law_take" = true)
    (kp1 : PySem.W.keepIn K (.ref fp1) = true)
    (ap1 : PySem.W.nsIn K mainGlobals "_law_take" = some (some (.ref fp1)))
    (lp2 : K.lookup fp2 = some ⟨ocp2, odp2, .func (PySem.W.fnOf "_law_places" "_law_places" (defArgs s_l_places) (defBody s_l_places) (defScope s_l_places) .none kVp2 dcp2 pmp2 anp2 cdp2 ctp2), slp2⟩)
    (cp2 : PySem.W.codeIn K cdp2 "_law_places" = true)
    (kp2 : PySem.W.keepIn K (.ref fp2) = true)
    (ap2 : PySem.W.nsIn K mainGlobals "_law_places" = some (some (.ref fp2)))
    (lp3 : K.lookup fp3 = some ⟨ocp3, odp3, .func (PySem.W.fnOf "_law_of" "_law_of" (defArgs s_l_of) (defBody s_l_of) (defScope s_l_of) .none kVp3 dcp3 pmp3 anp3 cdp3 ctp3), slp3⟩)
    (cp3 : PySem.W.codeIn K cdp3 "_law_of" = true)
    (kp3 : PySem.W.keepIn K (.ref fp3) = true)
    (ap3 : PySem.W.nsIn K mainGlobals "_law_of" = some (some (.ref fp3)))
    (lp4 : K.lookup fp4 = some ⟨ocp4, odp4, .func (PySem.W.fnOf "set_of" "set_of" (defArgs s_set_of) (defBody s_set_of) (defScope s_set_of) .none kVp4 dcp4 pmp4 anp4 cdp4 ctp4), slp4⟩)
    (cp4 : PySem.W.codeIn K cdp4 "set_of" = true)
    (kp4 : PySem.W.keepIn K (.ref fp4) = true)
    (ap4 : PySem.W.nsIn K mainGlobals "set_of" = some (some (.ref fp4)))
    (lp5 : K.lookup fp5 = some ⟨ocp5, odp5, .func (PySem.W.fnOf "within" "within" (defArgs s_within) (defBody s_within) (defScope s_within) .none kVp5 dcp5 pmp5 anp5 cdp5 ctp5), slp5⟩)
    (cp5 : PySem.W.codeIn K cdp5 "within" = true)
    (kp5 : PySem.W.keepIn K (.ref fp5) = true)
    (ap5 : PySem.W.nsIn K mainGlobals "within" = some (some (.ref fp5)))
    (lp6 : K.lookup fp6 = some ⟨ocp6, odp6, .func (PySem.W.fnOf "least_lots" "least_lots" (defArgs s_least_lots) (defBody s_least_lots) (defScope s_least_lots) .none kVp6 dcp6 pmp6 anp6 cdp6 ctp6), slp6⟩)
    (cp6 : PySem.W.codeIn K cdp6 "least_lots" = true)
    (kp6 : PySem.W.keepIn K (.ref fp6) = true)
    (ap6 : PySem.W.nsIn K mainGlobals "least_lots" = some (some (.ref fp6)))
    (lp7 : K.lookup fp7 = some ⟨ocp7, odp7, .func (PySem.W.fnOf "least_sets" "least_sets" (defArgs s_least_sets) (defBody s_least_sets) (defScope s_least_sets) .none kVp7 dcp7 pmp7 anp7 cdp7 ctp7), slp7⟩)
    (cp7 : PySem.W.codeIn K cdp7 "least_sets" = true)
    (kp7 : PySem.W.keepIn K (.ref fp7) = true)
    (ap7 : PySem.W.nsIn K mainGlobals "least_sets" = some (some (.ref fp7)))
    (lp8 : K.lookup fp8 = some ⟨ocp8, odp8, .func (PySem.W.fnOf "first_behind" "first_behind" (defArgs s_first_behind) (defBody s_first_behind) (defScope s_first_behind) .none kVp8 dcp8 pmp8 anp8 cdp8 ctp8), slp8⟩)
    (cp8 : PySem.W.codeIn K cdp8 "first_behind" = true)
    (kp8 : PySem.W.keepIn K (.ref fp8) = true)
    (ap8 : PySem.W.nsIn K mainGlobals "first_behind" = some (some (.ref fp8)))
    (lp9 : K.lookup fp9 = some ⟨ocp9, odp9, .func (PySem.W.fnOf "all_lots" "all_lots" (defArgs s_all_lots) (defBody s_all_lots) (defScope s_all_lots) .none kVp9 dcp9 pmp9 anp9 cdp9 ctp9), slp9⟩)
    (cp9 : PySem.W.codeIn K cdp9 "all_lots" = true)
    (kp9 : PySem.W.keepIn K (.ref fp9) = true)
    (ap9 : PySem.W.nsIn K mainGlobals "all_lots" = some (some (.ref fp9)))
    (lp10 : K.lookup fp10 = some ⟨ocp10, odp10, .func (PySem.W.fnOf "meets_all" "meets_all" (defArgs s_meets_all) (defBody s_meets_all) (defScope s_meets_all) .none kVp10 dcp10 pmp10 anp10 cdp10 ctp10), slp10⟩)
    (cp10 : PySem.W.codeIn K cdp10 "meets_all" = true)
    (kp10 : PySem.W.keepIn K (.ref fp10) = true)
    (ap10 : PySem.W.nsIn K mainGlobals "meets_all" = some (some (.ref fp10)))
    (lp11 : K.lookup fp11 = some ⟨ocp11, odp11, .func (PySem.W.fnOf "least_meeting" "least_meeting" (defArgs s_least_meeting) (defBody s_least_meeting) (defScope s_least_meeting) .none kVp11 dcp11 pmp11 anp11 cdp11 ctp11), slp11⟩)
    (cp11 : PySem.W.codeIn K cdp11 "least_meeting" = true)
    (kp11 : PySem.W.keepIn K (.ref fp11) = true)
    (ap11 : PySem.W.nsIn K mainGlobals "least_meeting" = some (some (.ref fp11)))
    (lp12 : K.lookup fp12 = some ⟨ocp12, odp12, .func (PySem.W.fnOf "_law_set" "_law_set" (defArgs s_l_set) (defBody s_l_set) (defScope s_l_set) .none kVp12 dcp12 pmp12 anp12 cdp12 ctp12), slp12⟩)
    (cp12 : PySem.W.codeIn K cdp12 "_law_set" = true)
    (kp12 : PySem.W.keepIn K (.ref fp12) = true)
    (ap12 : PySem.W.nsIn K mainGlobals "_law_set" = some (some (.ref fp12)))
    (lp13 : K.lookup fp13 = some ⟨ocp13, odp13, .func (PySem.W.fnOf "_law_is_number" "_law_is_number" (defArgs s_l_is_number) (defBody s_l_is_number) (defScope s_l_is_number) .none kVp13 dcp13 pmp13 anp13 cdp13 ctp13), slp13⟩)
    (cp13 : PySem.W.codeIn K cdp13 "_law_is_number" = true)
    (kp13 : PySem.W.keepIn K (.ref fp13) = true)
    (ap13 : PySem.W.nsIn K mainGlobals "_law_is_number" = some (some (.ref fp13)))
    (lp14 : K.lookup fp14 = some ⟨ocp14, odp14, .func (PySem.W.fnOf "_law_meeting" "_law_meeting" (defArgs s_l_meeting) (defBody s_l_meeting) (defScope s_l_meeting) .none kVp14 dcp14 pmp14 anp14 cdp14 ctp14), slp14⟩)
    (cp14 : PySem.W.codeIn K cdp14 "_law_meeting" = true)
    (kp14 : PySem.W.keepIn K (.ref fp14) = true)
    (ap14 : PySem.W.nsIn K mainGlobals "_law_meeting" = some (some (.ref fp14)))
    (lp15 : K.lookup fp15 = some ⟨ocp15, odp15, .func (PySem.W.fnOf "_law_lot" "_law_lot" (defArgs s_l_lot) (defBody s_l_lot) (defScope s_l_lot) .none kVp15 dcp15 pmp15 anp15 cdp15 ctp15), slp15⟩)
    (cp15 : PySem.W.codeIn K cdp15 "_law_lot" = true)
    (kp15 : PySem.W.keepIn K (.ref fp15) = true)
    (ap15 : PySem.W.nsIn K mainGlobals "_law_lot" = some (some (.ref fp15)))
    (lp16 : K.lookup fp16 = some ⟨ocp16, odp16, .func (PySem.W.fnOf "_law_sorted" "_law_sorted" (defArgs s_l_sorted) (defBody s_l_sorted) (defScope s_l_sorted) .none kVp16 dcp16 pmp16 anp16 cdp16 ctp16), slp16⟩)
    (cp16 : PySem.W.codeIn K cdp16 "_law_sorted" = true)
    (kp16 : PySem.W.keepIn K (.ref fp16) = true)
    (ap16 : PySem.W.nsIn K mainGlobals "_law_sorted" = some (some (.ref fp16)))
    (lp17 : K.lookup fp17 = some ⟨ocp17, odp17, .func (PySem.W.fnOf "_law_barest" "_law_barest" (defArgs s_l_barest) (defBody s_l_barest) (defScope s_l_barest) .none kVp17 dcp17 pmp17 anp17 cdp17 ctp17), slp17⟩)
    (cp17 : PySem.W.codeIn K cdp17 "_law_barest" = true)
    (kp17 : PySem.W.keepIn K (.ref fp17) = true)
    (ap17 : PySem.W.nsIn K mainGlobals "_law_barest" = some (some (.ref fp17)))
    (lp18 : K.lookup fp18 = some ⟨ocp18, odp18, .func (PySem.W.fnOf "_law_many" "_law_many" (defArgs s_l_many) (defBody s_l_many) (defScope s_l_many) .none kVp18 dcp18 pmp18 anp18 cdp18 ctp18), slp18⟩)
    (cp18 : PySem.W.codeIn K cdp18 "_law_many" = true)
    (kp18 : PySem.W.keepIn K (.ref fp18) = true)
    (ap18 : PySem.W.nsIn K mainGlobals "_law_many" = some (some (.ref fp18)))
    (lp19 : K.lookup fp19 = some ⟨ocp19, odp19, .func (PySem.W.fnOf "law" "law" (defArgs s_law) (defBody s_law) (defScope s_law) .none kVp19 dcp19 pmp19 anp19 cdp19 ctp19), slp19⟩)
    (cp19 : PySem.W.codeIn K cdp19 "law" = true)
    (kp19 : PySem.W.keepIn K (.ref fp19) = true)
    (ap19 : PySem.W.nsIn K mainGlobals "law" = some (some (.ref fp19)))
    (z_abs : PySem.W.nsIn K mainGlobals "abs" = some none)
    (z_all : PySem.W.nsIn K mainGlobals "all" = some none)
    (z_any : PySem.W.nsIn K mainGlobals "any" = some none)
    (z_bool : PySem.W.nsIn K mainGlobals "bool" = some none)
    (z_enumerate : PySem.W.nsIn K mainGlobals "enumerate" = some none)
    (z_int : PySem.W.nsIn K mainGlobals "int" = some none)
    (z_isinstance : PySem.W.nsIn K mainGlobals "isinstance" = some none)
    (z_len : PySem.W.nsIn K mainGlobals "len" = some none)
    (z_list : PySem.W.nsIn K mainGlobals "list" = some none)
    (z_range : PySem.W.nsIn K mainGlobals "range" = some none)
    (z_sorted : PySem.W.nsIn K mainGlobals "sorted" = some none)
    (z_sum : PySem.W.nsIn K mainGlobals "sum" = some none)
    (z_tuple : PySem.W.nsIn K mainGlobals "tuple" = some none) :
    ∃ fd : FuncData, (∀ (s : Shared) (v : Value), BindsTo s fd ⟨[v], []⟩ [("_law_script", v)]) ∧ ∀ base : Heap, K.In base → base.Ns mainGlobals mg → FnOk P w K mg base CX0 11 fa fd ["_law_script"] (sp_law K) := by
  have e := hfa.symm.trans (PySem.W.mg_of X G ap19)
  cases e
  let Z : Fa K mg := {
    cls := fun n => match n with  | _ => fa
    f_l_bag := _
    fd_l_bag := _
    F_l_bag := (fun_of (st := s_l_bag) lp0 cp0 kp0)
    D_l_bag := ⟨PySem.W.mg_of X G ap0, kp0, (Fun.binds (fun_of (st := s_l_bag) lp0 cp0 kp0) (ps := ["_law_script", "_law_at"]) fun _ _ _ _ _ _ us hl => match us, hl with | [_, _], _ => rfl)⟩
    f_l_take := _
    fd_l_take := _
    F_l_take := (fun_of (st := s_l_take) lp1 cp1 kp1)
    D_l_take := ⟨PySem.W.mg_of X G ap1, kp1, (Fun.binds (fun_of (st := s_l_take) lp1 cp1 kp1) (ps := ["_law_bag_here", "_law_many_here"]) fun _ _ _ _ _ _ us hl => match us, hl with | [_, _], _ => rfl)⟩
    f_l_places := _
    fd_l_places := _
    F_l_places := (fun_of (st := s_l_places) lp2 cp2 kp2)
    D_l_places := ⟨PySem.W.mg_of X G ap2, kp2, (Fun.binds (fun_of (st := s_l_places) lp2 cp2 kp2) (ps := ["_law_bag_here", "_law_many_here"]) fun _ _ _ _ _ _ us hl => match us, hl with | [_, _], _ => rfl)⟩
    f_l_of := _
    fd_l_of := _
    F_l_of := (fun_of (st := s_l_of) lp3 cp3 kp3)
    D_l_of := ⟨PySem.W.mg_of X G ap3, kp3, (Fun.binds (fun_of (st := s_l_of) lp3 cp3 kp3) (ps := ["_law_bag_here", "_law_some"]) fun _ _ _ _ _ _ us hl => match us, hl with | [_, _], _ => rfl)⟩
    f_set_of := _
    fd_set_of := _
    F_set_of := (fun_of (st := s_set_of) lp4 cp4 kp4)
    D_set_of := ⟨PySem.W.mg_of X G ap4, kp4, (Fun.binds (fun_of (st := s_set_of) lp4 cp4 kp4) (ps := ["days"]) fun _ _ _ _ _ _ us hl => match us, hl with | [_], _ => rfl)⟩
    f_within := _
    fd_within := _
    F_within := (fun_of (st := s_within) lp5 cp5 kp5)
    D_within := ⟨PySem.W.mg_of X G ap5, kp5, (Fun.binds (fun_of (st := s_within) lp5 cp5 kp5) (ps := ["one", "other"]) fun _ _ _ _ _ _ us hl => match us, hl with | [_, _], _ => rfl)⟩
    f_least_lots := _
    fd_least_lots := _
    F_least_lots := (fun_of (st := s_least_lots) lp6 cp6 kp6)
    D_least_lots := ⟨PySem.W.mg_of X G ap6, kp6, (Fun.binds (fun_of (st := s_least_lots) lp6 cp6 kp6) (ps := ["lots"]) fun _ _ _ _ _ _ us hl => match us, hl with | [_], _ => rfl)⟩
    f_least_sets := _
    fd_least_sets := _
    F_least_sets := (fun_of (st := s_least_sets) lp7 cp7 kp7)
    D_least_sets := ⟨PySem.W.mg_of X G ap7, kp7, (Fun.binds (fun_of (st := s_least_sets) lp7 cp7 kp7) (ps := ["lots"]) fun _ _ _ _ _ _ us hl => match us, hl with | [_], _ => rfl)⟩
    f_first_behind := _
    fd_first_behind := _
    F_first_behind := (fun_of (st := s_first_behind) lp8 cp8 kp8)
    D_first_behind := ⟨PySem.W.mg_of X G ap8, kp8, (Fun.binds (fun_of (st := s_first_behind) lp8 cp8 kp8) (ps := ["lot"]) fun _ _ _ _ _ _ us hl => match us, hl with | [_], _ => rfl)⟩
    f_all_lots := _
    fd_all_lots := _
    F_all_lots := (fun_of (st := s_all_lots) lp9 cp9 kp9)
    D_all_lots := ⟨PySem.W.mg_of X G ap9, kp9, (Fun.binds (fun_of (st := s_all_lots) lp9 cp9 kp9) (ps := ["many"]) fun _ _ _ _ _ _ us hl => match us, hl with | [_], _ => rfl)⟩
    f_meets_all := _
    fd_meets_all := _
    F_meets_all := (fun_of (st := s_meets_all) lp10 cp10 kp10)
    D_meets_all := ⟨PySem.W.mg_of X G ap10, kp10, (Fun.binds (fun_of (st := s_meets_all) lp10 cp10 kp10) (ps := ["numbers", "wanted"]) fun _ _ _ _ _ _ us hl => match us, hl with | [_, _], _ => rfl)⟩
    f_least_meeting := _
    fd_least_meeting := _
    F_least_meeting := (fun_of (st := s_least_meeting) lp11 cp11 kp11)
    D_least_meeting := ⟨PySem.W.mg_of X G ap11, kp11, (Fun.binds (fun_of (st := s_least_meeting) lp11 cp11 kp11) (ps := ["lots"]) fun _ _ _ _ _ _ us hl => match us, hl with | [_], _ => rfl)⟩
    f_l_set := _
    fd_l_set := _
    F_l_set := (fun_of (st := s_l_set) lp12 cp12 kp12)
    D_l_set := ⟨PySem.W.mg_of X G ap12, kp12, (Fun.binds (fun_of (st := s_l_set) lp12 cp12 kp12) (ps := ["_law_lot_here"]) fun _ _ _ _ _ _ us hl => match us, hl with | [_], _ => rfl)⟩
    f_l_is_number := _
    fd_l_is_number := _
    F_l_is_number := (fun_of (st := s_l_is_number) lp13 cp13 kp13)
    D_l_is_number := ⟨PySem.W.mg_of X G ap13, kp13, (Fun.binds (fun_of (st := s_l_is_number) lp13 cp13 kp13) (ps := ["_law_thing"]) fun _ _ _ _ _ _ us hl => match us, hl with | [_], _ => rfl)⟩
    f_l_meeting := _
    fd_l_meeting := _
    F_l_meeting := (fun_of (st := s_l_meeting) lp14 cp14 kp14)
    D_l_meeting := ⟨PySem.W.mg_of X G ap14, kp14, (Fun.binds (fun_of (st := s_l_meeting) lp14 cp14 kp14) (ps := ["_law_masks", "_law_places_here"]) fun _ _ _ _ _ _ us hl => match us, hl with | [_, _], _ => rfl)⟩
    f_l_lot := _
    fd_l_lot := _
    F_l_lot := (fun_of (st := s_l_lot) lp15 cp15 kp15)
    D_l_lot := ⟨PySem.W.mg_of X G ap15, kp15, (Fun.binds (fun_of (st := s_l_lot) lp15 cp15 kp15) (ps := ["_law_mask"]) fun _ _ _ _ _ _ us hl => match us, hl with | [_], _ => rfl)⟩
    f_l_sorted := _
    fd_l_sorted := _
    F_l_sorted := (fun_of (st := s_l_sorted) lp16 cp16 kp16)
    D_l_sorted := ⟨PySem.W.mg_of X G ap16, kp16, (Fun.binds (fun_of (st := s_l_sorted) lp16 cp16 kp16) (ps := ["_law_masks"]) fun _ _ _ _ _ _ us hl => match us, hl with | [_], _ => rfl)⟩
    f_l_barest := _
    fd_l_barest := _
    F_l_barest := (fun_of (st := s_l_barest) lp17 cp17 kp17)
    D_l_barest := ⟨PySem.W.mg_of X G ap17, kp17, (Fun.binds (fun_of (st := s_l_barest) lp17 cp17 kp17) (ps := ["_law_masks"]) fun _ _ _ _ _ _ us hl => match us, hl with | [_], _ => rfl)⟩
    f_l_many := _
    fd_l_many := _
    F_l_many := (fun_of (st := s_l_many) lp18 cp18 kp18)
    D_l_many := ⟨PySem.W.mg_of X G ap18, kp18, (Fun.binds (fun_of (st := s_l_many) lp18 cp18 kp18) (ps := ["_law_bag_here"]) fun _ _ _ _ _ _ us hl => match us, hl with | [_], _ => rfl)⟩
    f_law := _
    fd_law := _
    F_law := (fun_of (st := s_law) lp19 cp19 kp19)
    D_law := ⟨PySem.W.mg_of X G ap19, kp19, (Fun.binds (fun_of (st := s_law) lp19 cp19 kp19) (ps := ["_law_script"]) fun _ _ _ _ _ _ us hl => match us, hl with | [_], _ => rfl)⟩
    z_abs := PySem.W.mg_none_of X G z_abs
    z_all := PySem.W.mg_none_of X G z_all
    z_any := PySem.W.mg_none_of X G z_any
    z_bool := PySem.W.mg_none_of X G z_bool
    z_enumerate := PySem.W.mg_none_of X G z_enumerate
    z_int := PySem.W.mg_none_of X G z_int
    z_isinstance := PySem.W.mg_none_of X G z_isinstance
    z_len := PySem.W.mg_none_of X G z_len
    z_list := PySem.W.mg_none_of X G z_list
    z_range := PySem.W.mg_none_of X G z_range
    z_sorted := PySem.W.mg_none_of X G z_sorted
    z_sum := PySem.W.mg_none_of X G z_sum
    z_tuple := PySem.W.mg_none_of X G z_tuple }
  refine ⟨PySem.W.fnOf "law" "law" (defArgs s_law) (defBody s_law) (defScope s_law) .none kVp19 dcp19 pmp19 anp19 cdp19 ctp19, fun s v => .of_eq rfl, fun base _ _ => ?_⟩
  exact law_fn (ok_law_11 (P := P) (w := w) (base := base) Z) law_true_k79
theorem walk {l : PySem.W.OpenLaw} {q : Program} {loose : List Str} {XP : (Str → Option Value) → Heap → Prop} {YP : World → Heap → Prop} {d : DefRec} {K : Params → PySem.W.Frag} (hn : l.most = some 63) (hdf : d.params.defaults = [])
    (hY : ∀ (w : World) (h : Heap), YP w h → (K w.params).In h)
    (F : ∀ (w : World) (mg : Str → Option Value) (fa : Addr) (h : Heap), (K w.params).In h → h.Ns mainGlobals mg → mg d.name = some (.ref fa) →
      ∃ fd : FuncData, (∀ (s : Shared) (u : Value), BindsTo s fd ⟨[u], []⟩ [("_law_script", u)]) ∧ ∀ base : Heap, (K w.params).In base → base.Ns mainGlobals mg → FnOk l.prog w (K w.params) mg base CX0 11 fa fd ["_law_script"] (sp_law (K w.params))) :
    PySem.W.WalkO q loose XP YP l.row.toRowW d [] (fun f vs => PySem.call f vs) :=
  L2.walk_of (n := 63) (k := 11) (x := "_law_script") (CX := fun _ => CX0) (sp := fun w => sp_law (K w.params)) hn (by decide) hdf ⟨rfl, by decide, by decide⟩ hY F (fun _ _ a ns hl _ hS => ⟨a, ns, rfl, hS, hl, fun _ => rfl⟩) fun _ _ _ _ _ z => z
end TW
local macro_rules
  | `(tactic| refine $f:ident $_*) => if f.getId.eraseMacroScopes == `HeadRun.left_oneK then `(tactic| refine Hd.left_cut (M := (12 + (1 + (594 + 2)))) Hd.SZ Hd.an_eq Hd.sz_eq Hd.run Hd.open_eq (by rfl) Hd.fence_eq (by rfl) Hd.look1 Hd.look2 (fun w os => by kernel_rfl) ?_) else Lean.Macro.throwUnsupported
open PySem PySem.W PyProof.Rows
set_option maxRecDepth 100000 in
set_option maxHeartbeats 0 in
theorem PySem.Challenge.cw_usualdays_k79_least_meeting_lots_holds : PySem.Challenge.rw_usualdays_k79_least_meeting_lots.Holds := by
  w_on; o_law; k_headL; (case hw => w_witness2)
  k_fill
  refine TW.walk (l := PySem.Challenge.rw_usualdays_k79_least_meeting_lots) rfl rfl (fun w h Y => PySem.W.kIn_of Y) ?F
  case F =>
    intro w mg fa h KX G hmg
    refine' TW.all_mk KX G hmg ?lp0 ?cp0 ?kp0 ?ap0 ?lp1 ?cp1 ?kp1 ?ap1 ?lp2 ?cp2 ?kp2 ?ap2 ?lp3 ?cp3 ?kp3 ?ap3 ?lp4 ?cp4 ?kp4 ?ap4 ?lp5 ?cp5 ?kp5 ?ap5 ?lp6 ?cp6 ?kp6 ?ap6 ?lp7 ?cp7 ?kp7 ?ap7 ?lp8 ?cp8 ?kp8 ?ap8 ?lp9 ?cp9 ?kp9 ?ap9 ?lp10 ?cp10 ?kp10 ?ap10 ?lp11 ?cp11 ?kp11 ?ap11 ?lp12 ?cp12 ?kp12 ?ap12 ?lp13 ?cp13 ?kp13 ?ap13 ?lp14 ?cp14 ?kp14 ?ap14 ?lp15 ?cp15 ?kp15 ?ap15 ?lp16 ?cp16 ?kp16 ?ap16 ?lp17 ?cp17 ?kp17 ?ap17 ?lp18 ?cp18 ?kp18 ?ap18 ?lp19 ?cp19 ?kp19 ?ap19 ?z_abs ?z_all ?z_any ?z_bool ?z_enumerate ?z_int ?z_isinstance ?z_len ?z_list ?z_range ?z_sorted ?z_sum ?z_tuple
    (case ap0 => k_is)
    (case ap1 => k_is)
    (case ap2 => k_is)
    (case ap3 => k_is)
    (case ap4 => k_is)
    (case ap5 => k_is)
    (case ap6 => k_is)
    (case ap7 => k_is)
    (case ap8 => k_is)
    (case ap9 => k_is)
    (case ap10 => k_is)
    (case ap11 => k_is)
    (case ap12 => k_is)
    (case ap13 => k_is)
    (case ap14 => k_is)
    (case ap15 => k_is)
    (case ap16 => k_is)
    (case ap17 => k_is)
    (case ap18 => k_is)
    (case ap19 => k_is)
    (case z_abs => k_is)
    (case z_all => k_is)
    (case z_any => k_is)
    (case z_bool => k_is)
    (case z_enumerate => k_is)
    (case z_int => k_is)
    (case z_isinstance => k_is)
    (case z_len => k_is)
    (case z_list => k_is)
    (case z_range => k_is)
    (case z_sorted => k_is)
    (case z_sum => k_is)
    (case z_tuple => k_is)
    (case lp0 => k_is)
    (case lp1 => k_is)
    (case lp2 => k_is)
    (case lp3 => k_is)
    (case lp4 => k_is)
    (case lp5 => k_is)
    (case lp6 => k_is)
    (case lp7 => k_is)
    (case lp8 => k_is)
    (case lp9 => k_is)
    (case lp10 => k_is)
    (case lp11 => k_is)
    (case lp12 => k_is)
    (case lp13 => k_is)
    (case lp14 => k_is)
    (case lp15 => k_is)
    (case lp16 => k_is)
    (case lp17 => k_is)
    (case lp18 => k_is)
    (case lp19 => k_is)
    (case cp0 => k_is)
    (case kp0 => k_is)
    (case cp1 => k_is)
    (case kp1 => k_is)
    (case cp2 => k_is)
    (case kp2 => k_is)
    (case cp3 => k_is)
    (case kp3 => k_is)
    (case cp4 => k_is)
    (case kp4 => k_is)
    (case cp5 => k_is)
    (case kp5 => k_is)
    (case cp6 => k_is)
    (case kp6 => k_is)
    (case cp7 => k_is)
    (case kp7 => k_is)
    (case cp8 => k_is)
    (case kp8 => k_is)
    (case cp9 => k_is)
    (case kp9 => k_is)
    (case cp10 => k_is)
    (case kp10 => k_is)
    (case cp11 => k_is)
    (case kp11 => k_is)
    (case cp12 => k_is)
    (case kp12 => k_is)
    (case cp13 => k_is)
    (case kp13 => k_is)
    (case cp14 => k_is)
    (case kp14 => k_is)
    (case cp15 => k_is)
    (case kp15 => k_is)
    (case cp16 => k_is)
    (case kp16 => k_is)
    (case cp17 => k_is)
    (case kp17 => k_is)
    (case cp18 => k_is)
    (case kp18 => k_is)
    (case cp19 => k_is)
    (case kp19 => k_is)
