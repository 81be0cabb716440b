import PyProof.Rows.All
import Wide.All
import OpenK.AllK
import Wide.FinOn
import HandS.ForMost
import HandS.ForExc
import HandS.Wide
import HandS.IsInst
import HandS.SlotsOwn
import HandS.ClsMeth
import HandS.MakeKw
import HandS.CallLocal
import HandS.ExcInit
import HandS.ExcField
import HandS.WideBits
import HandS.OwnEq
import PyProof.NeKinds
import HandS.Style
import HandS.EndBits
import HandS.Walk
import PySem.Challenge.RW_usualdays_k07_verdicts_joined
set_option Elab.async false
set_option maxRecDepth 100000
set_option maxHeartbeats 4000000
namespace My
open PySem PySem.Spec PyProof.Rows L2
/-! ### defs that ask for repr: promised where no repr runs around them -/
structure FnG (P : Program) (w : World) (K : PySem.W.Frag) (mg : Str → Option Value) (base : Heap) (CX : CXT) (k : Nat) (f : Addr) (fd : FuncData) (ps : List Str) (sp : Sp) : Prop where
  many : ∀ vs H Q E, sp vs H Q E → vs.length = ps.length
  runs : ∀ (A : Around) (outer : List Env) (s : Shared) (H : Hp) (args : Args) (us : List Value) (vs : List V) (Q : VK) (E : XK), A.guards = some [] → Room k A →
    Env0 P w K mg base A outer s H → BindsTo s fd args (ps.zip us) → Vals vs us → sp vs H Q E → codeAny (model P w) A (.call (.ref f) args) (CR CX outer P w H s Q E) s
section
variable {P : Program} {w : World} {K : PySem.W.Frag} {mg : Str → Option Value} {base : Heap}
theorem FnG.of {CX : CXT} {k : Nat} {f : Addr} {fd : FuncData} {ps : List Str} {sp : Sp} (F : FnOk P w K mg base CX k f fd ps sp) : FnG P w K mg base CX k f fd ps sp :=
  ⟨F.len, fun A outer s H args us vs Q E _ => F.run A outer s H args us vs Q E⟩
/-- the rule for a def, its guards told -/
theorem Fun.okG {x qual : Str} {st : Stmt} {f : Addr} {fd : FuncData} {N ps : List Str} {k : Nat} {sp : Sp} (F : Fun K x qual st f fd) (S : FnScope N ps (defScope st)) (many : ∀ vs H Q E, sp vs H Q E → vs.length = ps.length)
    (body : ∀ (cdv : Value) (A : Around) (outer : List Env) (s : Shared) (H : Hp) (vs : List V) (Q : VK) (E : XK), A.guards = some [] → Room k (A.deeper (envOfC qual (defScope st) s.heap.objs.size f cdv)) → sp vs H Q E →
      ∃ t, PSs (cxOf CX0 P w K mg base N qual (defScope st) f cdv A outer s H E).nox (defBody st) t ∧ t { nx := fun _ H' => Q .non H', rt := Q } (start N vs) H) :
    FnG P w K mg base CX0 (k + 1) f fd ps sp := by
  obtain ⟨oc, od, kV, doc, pm, an, cdv, ct, osl, rfl, lk, hcd⟩ := F.ex
  refine ⟨many, fun A outer s H args us vs Q E hG hr env0 bnd vals hsp => ?_⟩
  have inK : K.In s.heap := env0.mod.kin.keeps (fun b o z => (env0.bs b o z).1)
  have noLim : s.heap.NoLimit := env0.mod.nolimit.keeps (fun b o z => (env0.bs b o z).1)
  obtain ⟨t, der0, goal⟩ := body cdv A outer s H vs Q E hG (hr.deeper _) hsp
  have der := der0.nox
  refine codeAny_call_function hr.depth (inK _ _ lk) rfl S.co S.gen rfl (PySem.W.codeRec_of inK hcd) (bnd _ _ _ _ ?_)
  refine wpAny_newFunctionEnv_cells S.kind ?_ (fun env he s1 made => ?_)
  · rintro ⟨n, v⟩ hy
    cases S.par n (List.of_mem_zip hy).1 with
    | inl q => exact .inl q
    | inr q => exact .inr ⟨q, PySem.W.cellsFrom_some _ _ _ (.inl q)⟩
  · subst he
    refine ⟨noLim.keeps made.toInCall.keep, codeAny_func ?_⟩
    have I0 := inv_start (CX := CX0) (P := P) (K := K) (mg := mg) (base := base) (E := E) S hr.hd env0 (many _ _ _ _ hsp) vals made
    refine wpAny_mono (der.run [] s1 _ H _ I0 goal) (fun fl s' res => ?_) (fun _ _ z => z)
    cases fl with
    | next =>
      obtain ⟨σ', H', J, q⟩ := res
      exact ⟨V.non, H', J.os, J.bare, J.base, J.hok, rfl, q⟩
    | brk => exact res.elim fun _ r => r.elim fun _ r => r.2.elim
    | cont => exact res.elim fun _ r => r.elim fun _ r => r.2.elim
    | ret u =>
      obtain ⟨v, σ', H', J, rv, q⟩ := res
      exact ⟨v, H', J.os, J.bare, J.base, J.hok, rv, q⟩
end
section
variable {X : Cx} {k : Nat} {f : Addr} {fd : FuncData} {ps : List Str} {sp : Sp} {x : Str} {p pos : Pos} {e : Expr} {es : List Expr} {t : TA}
/-- a call of such a def -/
theorem pe_callG (F : FnG X.prog X.w X.K X.mg X.base CX0 k f fd ps sp) (hG : X.A.guards = some []) (hr : Room k X.A) (hg : Gl X x) (hm : X.mg x = some (.ref f)) (hk : PySem.W.keepIn X.K (.ref f) = true) (hb : Binds X.K fd ps []) (ha : PA X (e :: es) t)
    (hdb : (x == ("__debug__" : Str)) = false := by decide) (he : starEach (e :: es) X.env = (false, eval e X.env) :: starEach es X.env := by rfl) (hpl : (backTo pos (starEach es X.env)).any (·.1) = false := by rfl) :
    PE X (.Call (.Name x p) (e :: es) [] pos) (tCall sp [] E0 t) := by
  refine ⟨fun pins s σ H Q I red => wpAny_Call_Name_kw (ld_glob I hg hm ?_ hdb)⟩
  refine PySem.W.callWith_K (h₀ := X.base) I.ok.mod.kin hk (thn (ha.run pos pins s σ H _ I red) ?_) he hpl
  rintro us s1 ⟨vs, H1, I1, r, q⟩
  rw [List.append_nil] at q
  have bnd := hb s1 us I1.kIn (by rw [List.append_nil, ← r.length]; exact F.many _ _ _ _ q)
  rw [List.append_nil] at bnd
  refine ⟨I1.kIn, wpAny_call (codeAny_mono (F.runs X.A X.stack s1 H1 ⟨us, []⟩ us vs Q E0 hG hr I1.env0 bnd r q) fun res s2 out => ?_)⟩
  cases res with
  | error er => exact out.elim
  | ok fl =>
    cases fl with
    | ret u => exact I1.after out
    | next => exact out.elim
    | brk => exact out.elim
    | cont => exact out.elim
/-- repr of data of any depth -/
def rReprD (K : PySem.W.Frag) : List V → Hp → VK → Prop := fun xs H Q => ∃ (a : Addr) (d : PyData), xs = [.ref a] ∧ Dp K H (.ref a) d ∧ PyData.layable0 d = true ∧ d.showable = true ∧ d.shown.length ≤ sizeLine ∧ Q (.str d.shown) H
theorem call_reprD (hG : X.A.guards = some []) (hu : X.A.units + 66 < cLine) : CallR X (.builtin "repr") (rReprD X.K) := by
  rintro pins s σ H xs us Q I r ⟨a, d, rfl, hd, hl, hs, hz, q⟩
  obtain ⟨u, rfl, ru⟩ := vals1 r
  obtain ⟨as, rd⟩ := Dp.reads I d _ u hd ru
  obtain rfl : u = Value.ref a := ru
  refine repr_of_reads' rd hs (PyData.noDict_hsm (PyData.hasDict_of_layable hl)) hG (by have := PyData.depth_le_of_layable hl; omega) (fun _ _ z => z) (fun h' t tk hk => ?_) hz
  exact ⟨.str d.shown, H, I.kept hk, ⟨_, rfl⟩, q⟩
end
end My
namespace My
open PySem PySem.Spec PyProof.Rows L2
/-- a heap that tracks at most the script, at a -/
structure Lone (P : Program) (w : World) (K : PySem.W.Frag) (H : Hp) (s : Shared) (a : Addr) : Prop where
  only : Only H
  ok : HOk P w H s.heap
  at_ : ∀ b, H b ≠ none → b = a
  away : H a ≠ none → K.lookup a = none
theorem lone_runs {P : Program} {w : World} {K : PySem.W.Frag} {mg mb : Str → Option Value} {k : Nat} {fa a : Addr} {fd : FuncData} {x : Str} {sp : Sp} {s : Shared} {vs : List Value} {H : Hp}
    (KX : K.In s.heap) (glob : s.heap.Ns mainGlobals mg) (blt : s.heap.Ns builtinsNs mb) (boot : ∀ y : Str, y ≠ "__name__" → mb y = bootBuiltins y) (lim : s.heap.NoLimit) (nogens : s.gens = #[])
    (ha : s.heap.get? a = some { cls := .type "list", data := .seq vs.toArray }) (hr : Room k callerA) (L : Lone P w K H s a)
    (F : ∀ base : Heap, K.In base → base.Ns mainGlobals mg → FnG P w K mg base CX0 k fa fd [x] sp) (bind : ∀ (s : Shared) (u : Value), BindsTo s fd ⟨[u], []⟩ [(x, u)]) (prom : sp [.ref a] H (fun v _ => v = .bl true) fun _ _ _ => False) :
    codeAny (model P w) callerA (.call (.ref fa) ⟨[.ref a], []⟩) (fun r s' => r = .ok (.ret (.bool true)) ∧ OldK s.heap s'.heap ∧ s'.os = s.os ∧ AllBare s'.gens) s := by
  have free : ∀ {b : Addr} {o : Obj}, s.heap.get? b = some o → (b = a → H b = none) → H b = none := fun {b o} e n => by
    by_cases hb : b = a
    · exact n hb
    · cases q : H b with
      | none => rfl
      | some u => exact absurd (L.at_ b (by rw [q]; exact nofun)) hb
  have dictFree : ∀ {b : Addr} {o : Obj} {es : Array DictEntry} {n : Nat}, s.heap.get? b = some o → o.data = .dict es n → H b = none := fun {b o es n} e d => free e fun hb => by
    rw [hb, ha] at e
    cases e
    exact nomatch d
  have ns : ∀ {b : Addr} {m : Str → Option Value}, s.heap.Ns b m → (hidT s.heap H).Ns b m := fun {b m} ⟨o, es, n, e, d, rest⟩ => ⟨o, es, n, hidT_get e (dictFree e d), d, rest⟩
  have inB : K.In (hidT s.heap H) := fun b o e => hidT_get (KX b o e) (free (KX b o e) fun hb => by
    cases q : H b with
    | none => rfl
    | some u =>
      rw [hb] at e q
      rw [L.away (by rw [q]; exact nofun)] at e
      cases e)
  obtain ⟨mc, l1, l2⟩ := lim
  have md : Mod K mg (hidT s.heap H) := ⟨inB, ns glob, ⟨mb, ns blt, boot⟩, ⟨mc, ns l1, l2⟩⟩
  have env0 : Env0 P w K mg (hidT s.heap H) callerA [] s H := { frames := rfl, mod := md, bs := fun b o e => of_hidT e, bsz := Nat.le_of_eq (hidT_size _ _), funs := trivial, frf := fun b z => (List.not_mem_nil (show b ∈ [] from z)).elim, hok := L.ok, bare := .of_eq nogens }
  refine codeAny_mono ((F _ inB (ns glob)).runs callerA [] s H ⟨[.ref a], []⟩ [.ref a] [.ref a] _ _ rfl hr env0 (bind s (.ref a)) (.cons rfl .nil) prom) fun res s' out => ?_
  cases res with
  | error er => exact out.elim
  | ok fl =>
    cases fl with
    | next => exact out.elim
    | brk => exact out.elim
    | cont => exact out.elim
    | ret u =>
      obtain ⟨v, H', os, bare, un, hok', rv, ev⟩ := out
      subst ev
      cases (show u = Value.bool true from rv)
      refine ⟨rfl, OldK.of_keep (fun b o e => ?_), os, bare⟩
      rcases L.only b with z | ⟨ob, xs, z⟩
      · exact un.keep b o e z (fun h => (List.not_mem_nil (show b ∈ [] from h)).elim) (fun h => (nomatch h))
      · obtain ⟨e1, _⟩ := L.ok b _ z
        obtain ⟨e2, _⟩ := hok' b _ (un.frzs b ob _ z)
        rw [e] at e1
        cases e1
        exact e2
theorem walk_ofG {l : PySem.W.OpenLaw} {k : Nat} {q : Program} {loose : List Str} {XP : (Str → Option Value) → Heap → Prop} {YP : World → Heap → Prop} {d : DefRec} {K : Params → PySem.W.Frag} {sp : PySem.W.Frag → Sp} {x : Str}
    (hn : l.most = some 63) (hdf : d.params.defaults = []) (hr : Room k callerA) (hY : ∀ (w : World) (h : Heap), YP w h → (K w.params).In h)
    (F : ∀ (w : World) (mg : Str → Option Value) (fa : Addr) (h : Heap), (K w.params).In h → h.Ns mainGlobals mg → mg d.name = some (.ref fa) →
      ∃ fd : FuncData, (∀ (s : Shared) (u : Value), BindsTo s fd ⟨[u], []⟩ [(x, u)]) ∧ ∀ base : Heap, (K w.params).In base → base.Ns mainGlobals mg → FnG l.prog w (K w.params) mg base CX0 k fa fd [x] (sp (K w.params)))
    (prom : ∀ (K : PySem.W.Frag) (H : Hp) (a : Addr) (ns : List Int), ns.length ≤ 63 → SqL K H a (ns.map V.int) → sp K [.ref a] H (fun v _ => v = .bl true) fun _ _ _ => False) :
    PySem.W.WalkO q loose XP YP l.row.toRowW d [] (fun f vs => PySem.call f vs) := by
  refine Att.attach_call hn hdf fun w s₀ s₁ mg mb fa o pm cd doc a vs ns G Y ho hd hcd hmg hobj hints hlen hg => ?_
  have KX := hY w _ Y
  obtain ⟨fd, bind, hF⟩ := F w mg fa _ KX G.T.g hmg
  have size : ns.length ≤ sizeLine := Nat.le_trans hlen (by decide)
  cases hk : (K w.params).lookup a with
  | none =>
    refine lone_runs (H := fun b => if b = a then some (.frz { cls := .type "list", data := .seq vs.toArray } (.lst (ns.map V.int))) else none) KX G.T.g G.T.b G.T.builtins G.T.nolimit hg hobj hr ⟨fun b => ?_, fun b u z => ?_, fun b z => ?_, fun _ => hk⟩ hF bind
      (prom _ _ _ ns hlen (.inl (.inr ⟨_, if_pos rfl⟩)))
    · by_cases hb : b = a
      · exact .inr ⟨_, _, if_pos hb⟩
      · exact .inl (if_neg hb)
    · by_cases hb : b = a
      · have y := (if_pos hb).symm.trans z
        cases y
        rw [hb]
        exact ⟨hobj, by rw [List.length_map]; exact size, vs, _, vals_ints hints, hobj⟩
      · have y := (if_neg hb).symm.trans z
        cases y
    · by_cases hb : b = a
      · exact hb
      · exact absurd (if_neg hb) z
  | some ob =>
    have e := KX a ob hk
    rw [hobj] at e
    cases e
    refine lone_runs (H := fun _ => none) KX G.T.g G.T.b G.T.builtins G.T.nolimit hg hobj hr ⟨fun _ => .inl rfl, fun b u z => (nomatch z), fun b z => absurd rfl z, fun z => absurd rfl z⟩ hF bind (prom _ _ _ ns hlen (.inr ⟨_, vs.toArray, _, hk, rfl, rfl, rfl, ?_, ?_⟩))
    · rw [List.size_toArray, hints.length]
      exact size
    · exact vals_ints hints
end My
set_option Elab.async false
set_option maxRecDepth 100000
set_option maxHeartbeats 4000000
namespace My
open PySem PySem.Spec PyProof.Rows L2 ClX
/-! ### own comparisons of instances with a dict; classes in slots; class methods with keywords -/
/-- the promise with E's exceptions left out -/
def rOwnD (K : PySem.W.Frag) (C : Addr) (sp : Sp) (E : XK) : R2 := fun x y H Q => ∃ a dx fs t, x = .ref a ∧ H a = some (.ins C dx fs) ∧ TyX K H y t ∧ PySem.W.notFirst K C t = true ∧ sp [x, y] H Q E
section
variable {X : Cx} {CX : CXT} {C g : Addr} {n : Nat} {sp : Sp} {E : XK}
theorem op_ownD {op : CmpOp} (hop : ∀ a b, compareOp op a b = richCompare op a b) (hs : PySem.W.findIn X.K (.ref C) (cmpInfo op).2.1 = some (some (.ref g))) (hf : PySem.W.isFn X.K (.ref g) = true) (F : FnR X.prog X.w X.K X.mg X.base CX n g sp)
    (hr : Room n X.A) (hx : Passes CX X E) : OpR X (compareOp op) (rOwnD X.K C sp E) := by
  intro pins s σ H x y v u Q I rx ry h
  obtain ⟨a, dx, fs, t, rfl, ha, ty, hn, q⟩ := h
  cases (show v = Value.ref a from rx)
  obtain ⟨mA, J, _⟩ := ins_get I.hok ha
  obtain ⟨od, J, _⟩ := J.look
  obtain ⟨P, kt, pt, _⟩ := kit_of I ry ty
  obtain ⟨m, hF⟩ := I.fr
  rw [hop]
  refine PySem.W.cmp_K (op := op) (tb := t) hr.units0 hF I.ok.mod.kin J (kt.ty _ _ I.kIn pt) hn hs hf ?_
  refine wpAny_mono (wpAny_call (run_fnR (us := [.ref a, u]) (vs := [.ref a, y]) F hr hx I (.cons rfl (.cons ry .nil)) q)) (fun w s' z => ?_) fun _ _ x => x
  obtain ⟨z', H', I', rz, qz⟩ := z
  exact SlX.cmpback rz ⟨z', H', I', rz, qz⟩
end
/-- x(..), x a slot that holds the class at C -/
def tMakeL (i : Nat) (C : Addr) (sp : Sp) (dvs : List V) (E : XK) (t : TA) : TE := fun σ H Q => σ[i]? = some (some (.ref C)) ∧ tMake C sp dvs E t σ H Q
/-- .. as tMake, where what is raised is wished for at the caller's slots -/
def tMakeS (C : Addr) (sp : Sp) (dvs : List V) (E : L2.St → XK) (t : TA) : TE := fun σ H Q => tMake C sp dvs (E σ) t σ H Q
def tCMethS (C : Addr) (sp : Sp) (E : L2.St → XK) (ta : TE) (t : TA) : TE := fun σ H Q => tCMeth C sp (E σ) ta t σ H Q
def tMethS (C : Addr) (m : Str) (sp : Sp) (E : L2.St → XK) (ta : TE) (t : TA) : TE := fun σ H Q => ta σ H fun x H1 => ∃ a dx fs, x = .ref a ∧ H1 a = some (.ins C dx fs) ∧ fs.lookup m = none ∧ t σ H1 fun vs H2 => sp (x :: vs) H2 Q (E σ)
/-- C.m(.., k = v) -/
def tCMethN (C : Addr) (n m : Nat) (sp : Sp) (gV : List V → List V → List V) (E : XK) (ta : TE) (t tk : TA) : TE := fun σ H Q => ta σ H fun x H1 => x = .ref C ∧ t σ H1 fun vs H2 => tk σ H2 fun zs H3 => vs.length = n ∧ zs.length = m ∧ sp (gV (.ref C :: vs) zs) H3 Q E
section
variable {X : Cx} {CX : CXT} {k i n : Nat} {f C p g : Addr} {fd : FuncData} {ps ks : List Str} {sp : Sp} {dvs : List V} {ds : List Value} {E : XK} {ES : L2.St → XK} {x m : Str} {pp pos apos : Pos} {e o : Expr} {es : List Expr} {kws : List Keyword} {t tk : TA} {ta : TE} {mc : Value} {pl : Sem Bool}
  {gg : List Value → List Value → List Value} {gV : List V → List V → List V}
theorem pe_makeL (M : Mk X.K C f) (F : FnOk X.prog X.w X.K X.mg X.base CX k f fd ps sp) (hr : Room (k + 1) X.A) (hN : X.N[i]? = some x) (hv : Vis X.env.scope x) (hb : Binds X.K fd ps ds) (hd : Vals dvs ds) (hx : Passes CX X E) (ha : PA X (e :: es) t)
    (hdb : (x == ("__debug__" : Str)) = false := by decide) (hcd : (x == ("__classdict__" : Str)) = false := by decide)
    (he : starEach (e :: es) X.env = (false, eval e X.env) :: starEach es X.env := by rfl) (hpl : (backTo pos (starEach es X.env)).any (·.1) = false := by rfl) : PE X (.Call (.Name x pp) (e :: es) [] pos) (tMakeL i C sp dvs E t) := by
  refine ⟨fun pins s σ H Q I h => ?_⟩
  obtain ⟨hs, ht⟩ := h
  refine wpAny_Call_Name_kw (thn ((pe_var (pos := pp) hN hv hdb hcd).run pins s σ H (fun v H1 => v = .ref C ∧ H1 = H) I ⟨.ref C, hs, rfl, rfl⟩) fun u s1 ⟨v, H1, I1, r1, q1⟩ => ?_)
  obtain ⟨rfl, rfl⟩ := q1
  cases r1
  refine PySem.W.callWith_K (h₀ := X.base) I.ok.mod.kin M.kp (thn (ha.run pos pins s1 σ _ _ I1 ht) fun us s2 ⟨vs, H2, I2, r, q⟩ => ⟨I2.kIn, ?_⟩) he hpl
  exact run_make M F hr hb hd hx I2 r q
theorem run_makeS {pins : List (Addr × Obj)} {σ : L2.St} {H : Hp} {s : Shared} {Q : VK} {us : List Value} {vs : List V} (M : Mk X.K C f) (F : FnOk X.prog X.w X.K X.mg X.base CX k f fd ps sp) (hr : Room (k + 1) X.A) (hb : Binds X.K fd ps ds) (hd : Vals dvs ds)
    (hx : PassesAt CX X σ E) (I : Inv X pins σ H s) (r : Vals vs us)
    (h : ∀ x dx, H x = none → H dx = none → dx ≠ x → sp (.ref x :: (vs ++ dvs)) (upd (upd H dx (.own x)) x (.ins C dx [])) (fun v H2 => v = .non ∧ Q (.ref x) H2) E) :
    wpAny (model X.prog X.w) X.A (call (.ref C) us) (EP X pins σ Q) X.xe s := by
  have hq := h (s.heap.objs.size + 1) s.heap.objs.size (I.hok.fresh (Nat.le_succ _)) (I.hok.fresh (Nat.le_refl _)) (Nat.ne_of_lt (Nat.lt_succ_self _))
  have I2 := Inv.made (C := C) I
  have r2 : Vals (V.ref (s.heap.objs.size + 1) :: (vs ++ dvs)) (Value.ref (s.heap.objs.size + 1) :: (us ++ ds)) := .cons rfl (r.append hd)
  have hl : (Value.ref (s.heap.objs.size + 1) :: us ++ ds).length = ps.length := by
    have e := r2.length
    rw [F.len _ _ _ _ hq] at e
    exact e.symm
  refine wpAny_call (make_map (f := f) I.kIn M.makes M.init (beq_iff_eq.mp M.fn) (codeAny_mono (F.run _ X.stack _ _ ⟨Value.ref (s.heap.objs.size + 1) :: us, []⟩ (Value.ref (s.heap.objs.size + 1) :: (us ++ ds)) _ _ E (hr.make C us [])
    (I2.env0.make C us []) (hb _ (Value.ref (s.heap.objs.size + 1) :: us) I2.kIn hl) r2 hq) fun r s' hq' => ?_))
  cases r with
  | error e => exact hx pins _ _ e s' I2 hq'
  | ok fl =>
    cases fl with
    | ret u =>
      obtain ⟨v, H', I3, rv, ev, q3⟩ := I2.after hq'
      subst ev
      exact ⟨rv, ⟨V.ref (s.heap.objs.size + 1), H', I3, rfl, q3⟩⟩
    | next => exact False.elim hq'
    | brk => exact False.elim hq'
    | cont => exact False.elim hq'
theorem pe_makeS (M : Mk X.K C f) (F : FnOk X.prog X.w X.K X.mg X.base CX k f fd ps sp) (hr : Room (k + 1) X.A) (hg : Gl X x) (hm : X.mg x = some (.ref C)) (hb : Binds X.K fd ps ds) (hd : Vals dvs ds) (hx : ∀ σ, PassesAt CX X σ (ES σ))
    (ha : PA X (e :: es) t) (hdb : (x == ("__debug__" : Str)) = false := by decide) (he : starEach (e :: es) X.env = (false, eval e X.env) :: starEach es X.env := by rfl) (hpl : (backTo pos (starEach es X.env)).any (·.1) = false := by rfl) :
    PE X (.Call (.Name x pp) (e :: es) [] pos) (tMakeS C sp dvs ES t) := by
  refine ⟨fun pins s σ H Q I h => ?_⟩
  refine wpAny_Call_Name_kw (ld_glob I hg hm ?_ hdb)
  refine PySem.W.callWith_K (h₀ := X.base) I.ok.mod.kin M.kp (thn (ha.run pos pins s σ H _ I h) fun us s1 ⟨vs, H1, I1, r, q⟩ => ⟨I1.kIn, ?_⟩) he hpl
  exact run_makeS M F hr hb hd (hx σ) I1 r q
theorem run_fnRS {pins : List (Addr × Obj)} {σ : L2.St} {H : Hp} {s : Shared} {Q : VK} {us : List Value} {vs : List V} (F : FnR X.prog X.w X.K X.mg X.base CX k f sp) (hr : Room k X.A) (hx : PassesAt CX X σ E) (I : Inv X pins σ H s) (r : Vals vs us) (h : sp vs H Q E) :
    codeAny (model X.prog X.w) X.A (.call (.ref f) ⟨us, []⟩) (fun r s' => match r with | .ok (.ret v) => EP X pins σ Q v s' | .ok _ => False | .error e => X.xe e s') s := by
  refine codeAny_mono (F X.A X.stack s H us vs Q E hr I.env0 r h) fun r s' hq => ?_
  cases r with
  | error e => exact hx pins H s e s' I hq
  | ok fl =>
    cases fl with
    | ret u => exact I.after hq
    | next => exact False.elim hq
    | brk => exact False.elim hq
    | cont => exact False.elim hq
theorem pe_cmethS (he : PE X o ta) (r : CRead X.K C mc) (c : CMet X.K C mc m p g) (F : FnR X.prog X.w X.K X.mg X.base CX k g sp) (hr : Room k X.A) (hx : ∀ σ, PassesAt CX X σ (ES σ)) (ha : PA X (e :: es) t)
    (hst : starEach (e :: es) X.env = (false, eval e X.env) :: starEach es X.env := by rfl) (hpl : (backTo pos (starEach es X.env)).any (·.1) = false := by rfl)
    (ht : eval (.Call (.Attribute o m apos) (e :: es) [] pos) X.env = (do
      let ov ← eval o X.env
      standAt apos.atName
      let (f, first) ← holding [ov] (getMethod ov m pl)
      callWith pos f first (backTo pos (starEach (e :: es) X.env)) (backToKw pos (keywordEach [] X.env))) := by rfl) :
    PE X (.Call (.Attribute o m apos) (e :: es) [] pos) (tCMethS C sp ES ta t) := by
  refine ⟨fun pins s σ H Q I h => ?_⟩
  refine PySem.W.methodCall_KW (pl := pl) (thn (he.run pins s σ H _ I h) fun u s1 ⟨x, H1, I1, rx, ex, q⟩ => ?_) ht
  subst ex
  obtain rfl : u = Value.ref C := rx
  refine getmethcm_ok I1 r c fun s2 I2 => ?_
  refine callwith_cm I2 (base_none I1 (Nat.le_refl _)) c.fi (thn (ha.run pos _ s2 σ H1 _ I2 q) fun us s3 ⟨vs, H2, I3, rv, q2⟩ => ⟨⟨pin_at I3, I3.kIn⟩, ?_⟩) hst hpl
  have z : wpAny (model X.prog X.w) X.A (call (.ref s1.heap.objs.size) us) (EP X _ σ Q) X.xe s3 := wpAny_call (PySem.W.method_call (pin_at I3) (run_fnRS (us := .ref C :: us) (vs := .ref C :: vs) F hr (hx σ) I3 (.cons rfl rv) q2))
  exact thn z fun _ _ y => unpinE y
theorem pe_cmethN (he : PE X o ta) (r : CRead X.K C mc) (c : CMet X.K C mc m p g) (F : FnOk X.prog X.w X.K X.mg X.base CX k g fd ps sp) (hr : Room k X.A) (hb : KBn X.K fd ps (n + 1) ks gg gV) (hx : Passes CX X E) (ha : PA X (e :: es) t) (hkw : PK X kws tk)
    (hall : (backToKw pos (keywordEach kws X.env)).all (·.1.isSome) = true := by rfl) (hks : (backToKw pos (keywordEach kws X.env)).filterMap (·.1) = ks := by rfl)
    (hst : starEach (e :: es) X.env = (false, eval e X.env) :: starEach es X.env := by rfl)
    (hpl : ((backTo pos (starEach (e :: es) X.env)).any (·.1) || (backToKw pos (keywordEach kws X.env)).any (·.1.isNone)) = false := by rfl)
    (ht : eval (.Call (.Attribute o m apos) (e :: es) kws pos) X.env = (do
      let ov ← eval o X.env
      standAt apos.atName
      let (f, first) ← holding [ov] (getMethod ov m pl)
      callWith pos f first (backTo pos (starEach (e :: es) X.env)) (backToKw pos (keywordEach kws X.env))) := by rfl) :
    PE X (.Call (.Attribute o m apos) (e :: es) kws pos) (tCMethN C n ks.length sp gV E ta t tk) := by
  refine ⟨fun pins s σ H Q I h => ?_⟩
  refine PySem.W.methodCall_KW (pl := pl) (thn (he.run pins s σ H _ I h) fun u s1 ⟨x, H1, I1, rx, ex, q⟩ => ?_) ht
  subst ex
  obtain rfl : u = Value.ref C := rx
  refine getmethcm_ok I1 r c fun s2 I2 => ?_
  refine PySem.W.callWith_of hpl (PySem.W.keeps_M (K := X.K) (self := .ref C) c.fi) ?_
  refine evalArgs_kw2 hall ?_ hst
  refine thn (ha.run pos _ s2 σ H1 _ I2 q) fun us s3 ⟨vs, H2, I3, rv, q2⟩ => ?_
  refine thn (hkw.run pos _ s3 σ H2 _ I3 q2) fun ws s4 ⟨zs, H3, I4, rz, l1, l2, q3⟩ => ⟨⟨pin_at I4, I4.kIn⟩, ?_⟩
  rw [hks]
  have r2 := hb.rel (vs := .ref C :: vs) (us := .ref C :: us) (.cons rfl rv) rz
  have e1 : (Value.ref C :: us).length = n + 1 := by rw [List.length_cons, ← rv.length, l1]
  have e2 : ws.length = ks.length := rz.length.symm.trans l2
  have z : wpAny (model X.prog X.w) X.A (call (.ref s1.heap.objs.size) us (ks.zip ws)) (EP X _ σ Q) X.xe s4 := wpAny_call (PySem.W.method_call (kw := ks.zip ws) (pin_at I4)
    (codeAny_mono (F.run X.A X.stack s4 H3 ⟨.ref C :: us, ks.zip ws⟩ (gg (.ref C :: us) ws) (gV (.ref C :: vs) zs) Q E hr I4.env0 (hb.to s4 (.ref C :: us) ws I4.kIn e1 e2) r2 q3) fun r s' hq => by
      cases r with
      | error e => exact hx _ σ H3 s4 e s' I4 hq
      | ok fl =>
        cases fl with
        | ret u => exact I4.after hq
        | next => exact False.elim hq
        | brk => exact False.elim hq
        | cont => exact False.elim hq))
  exact thn z fun _ _ y => unpinE y
/-- o.m(..), where what is raised is wished for at the caller's slots -/
theorem pe_methS (he : PE X o ta) (c : Cls X.K C) (hm : Meth X.K C m f) (F : FnOk X.prog X.w X.K X.mg X.base CX k f fd ps sp) (hr : Room k X.A) (hb : Binds X.K fd ps []) (hx : ∀ σ, PassesAt CX X σ (ES σ)) (ha : PA X (e :: es) t)
    (hst : starEach (e :: es) X.env = (false, eval e X.env) :: starEach es X.env := by rfl) (hpl : (backTo pos (starEach es X.env)).any (·.1) = false := by rfl)
    (ht : eval (.Call (.Attribute o m apos) (e :: es) [] pos) X.env = (do
      let ov ← eval o X.env
      standAt apos.atName
      let (f, first) ← holding [ov] (getMethod ov m pl)
      callWith pos f first (backTo pos (starEach (e :: es) X.env)) (backToKw pos (keywordEach [] X.env))) := by rfl) :
    PE X (.Call (.Attribute o m apos) (e :: es) [] pos) (tMethS C m sp ES ta t) := by
  refine ⟨fun pins s σ H Q I h => ?_⟩
  refine PySem.W.methodCall_KW (pl := pl) (thn (he.run pins s σ H _ I h) fun u s1 ⟨x, H1, I1, rx, a, dx, fs, ex, ea, l, q⟩ => ?_) ht
  subst ex
  obtain rfl : u = Value.ref a := rx
  refine getmeth_ok I1 ea c hm l ?_
  refine PySem.W.callWith_K (first := [.ref a]) (h₀ := X.base) I.ok.mod.kin hm.kp (thn (ha.run pos pins s1 σ H1 _ I1 q) fun us s2 ⟨vs, H2, I2, r, q2⟩ => ⟨I2.kIn, ?_⟩) hst hpl
  exact run_fnS (us := .ref a :: us) (vs := .ref a :: vs) F hr hb (hx σ) I2 (.cons rfl r) q2
end
end My
set_option Elab.async false
set_option maxRecDepth 100000
set_option maxHeartbeats 4000000
namespace My
open PySem PySem.Spec PyProof.Rows L2 ClX
/-! ### an own operator between two instances of one class; C.m() -/
def rOwnB (C : Addr) (sp : Sp) (E : XK) : R2 := fun x y H Q => ∃ a dx fs b dy gs, x = .ref a ∧ y = .ref b ∧ H a = some (.ins C dx fs) ∧ H b = some (.ins C dy gs) ∧ sp [x, y] H Q E
section
variable {X : Cx} {CX : CXT} {C g p : Addr} {k n : Nat} {sp : Sp} {E : XK} {o : Expr} {m : Str} {pos apos : Pos} {ta : TE} {mc : Value} {pl : Sem Bool}
theorem op_ownB {op : Operator} (hc : PySem.W.selfFirst X.K C = true) (hs : PySem.W.findIn X.K (.ref C) (PySem.dunder op.info.2) = some (some (.ref g))) (hf : PySem.W.isFn X.K (.ref g) = true) (F : FnR X.prog X.w X.K X.mg X.base CX n g sp)
    (hr : Room n X.A) (hx : Passes CX X E) : OpR X (binaryOp op) (rOwnB C sp E) := by
  intro pins s σ H x y v u Q I rx ry h
  obtain ⟨a, dx, fs, b, dy, gs, rfl, rfl, ha, hb, q⟩ := h
  cases (show v = Value.ref a from rx)
  cases (show u = Value.ref b from ry)
  obtain ⟨mA, J, _⟩ := ins_get I.hok ha
  obtain ⟨od, J, _⟩ := J.look
  obtain ⟨mB, J', _⟩ := ins_get I.hok hb
  obtain ⟨od', J', _⟩ := J'.look
  obtain ⟨m, hF⟩ := I.fr
  refine PySem.W.binop_K (op := op) hF I.ok.mod.kin J J'.type hc hs hf ?_
  refine wpAny_mono (wpAny_call (run_fnR (us := [.ref a, .ref b]) (vs := [.ref a, .ref b]) F hr hx I (.cons rfl (.cons rfl .nil)) q)) (fun w s' z => ?_) fun _ _ x => x
  obtain ⟨z', H', I', rz, qz⟩ := z
  exact SlX.cmpback rz ⟨z', H', I', rz, qz⟩
theorem pe_cmeth0 (he : PE X o ta) (r : CRead X.K C mc) (c : CMet X.K C mc m p g) (F : FnR X.prog X.w X.K X.mg X.base CX k g sp) (hr : Room k X.A) (hx : Passes CX X E)
    (ht : eval (.Call (.Attribute o m apos) [] [] pos) X.env = (do
      let ov ← eval o X.env
      standAt apos.atName
      let (f, first) ← holding [ov] (getMethod ov m pl)
      callWith pos f first (backTo pos (starEach [] X.env)) (backToKw pos (keywordEach [] X.env))) := by rfl) :
    PE X (.Call (.Attribute o m apos) [] [] pos) (tCMeth C sp E ta tNil) := by
  refine ⟨fun pins s σ H Q I h => ?_⟩
  refine PySem.W.methodCall_KW (pl := pl) (thn (he.run pins s σ H _ I h) fun u s1 ⟨x, H1, I1, rx, ex, q⟩ => ?_) ht
  subst ex
  obtain rfl : u = Value.ref C := rx
  refine getmethcm_ok I1 r c fun s2 I2 => ?_
  exact PySem.W.callWith_M0 (K := X.K) (first := []) ⟨pin_at I2, I2.kIn⟩ c.fi (run_cm (us := []) (vs := []) F hr hx I2 .nil q)
end
end My
set_option Elab.async false
set_option maxRecDepth 100000
set_option maxHeartbeats 4000000
namespace My
open PySem PySem.Spec PyProof.Rows L2
/-! ### raise C(), C an own error class whose __init__ does nothing -/
/-- such an __init__ -/
def sp_pass : Sp := fun vs H Q _ => ∃ a : Addr, vs = [.ref a] ∧ Q .non H
section
variable {X : Cx} {x : Str} {p pos : Pos}
theorem pmk_pass {C fI : Addr} {k : Nat} {fd : FuncData} (T : OexC X.K C) (iC : PySem.W.findIn X.K (.ref C) "__init__" = some (some (.ref fI))) (tI : PySem.W.typeIn X.K (.ref fI) = some (.type "function"))
    (F1 : FnOk X.prog X.w X.K X.mg X.base CX0 k fI fd ["self"] sp_pass) (hr : Room (k + 1) X.A) (hb : Binds X.K fd ["self"] []) (hg : Gl X x) (hm : X.mg x = some (.ref C)) (hdb : (x == ("__debug__" : Str)) = false := by decide) :
    PMk X (.Call (.Name x p) [] [] pos) (fun _ H Q => Q (.ref C) none H) := by
  intro pins s σ H Q I h
  obtain ⟨nm, q, N, bs, bm, sn, sub, ab, col, dd, k0, k1, k2, k3, k5, hC, hbm⟩ := T.cls
  refine wpAny_Call_Name_kw (ld_glob I hg hm ?_ hdb)
  refine PySem.W.callWith_K0 I.kIn T.kC ?_
  obtain ⟨hp, g, dr, tk, os⟩ := s
  have keep2 : ∀ b o, hp.get? b = some o → ((hp.push (PySem.W.kdv_tup [])).push (PySem.HandSPX.excO C hp.objs.size)).get? b = some o :=
    fun b o e => Heap.get?_push_of_some _ (Heap.get?_push_of_some _ e)
  have hget : ((hp.push (PySem.W.kdv_tup [])).push (PySem.HandSPX.excO C hp.objs.size)).get? (hp.objs.size + 1) = some (PySem.HandSPX.excO C hp.objs.size) := by heap_get
  have hn : H (hp.objs.size + 1) = none := I.hok.fresh (Nat.le_succ _)
  have I2 : Inv X pins σ H ⟨(hp.push (PySem.W.kdv_tup [])).push (PySem.HandSPX.excO C hp.objs.size), g, dr, tk, os⟩ := I.kept (t' := tk) keep2
  refine wpAny_call (PySem.HandSPX.call_own F.excBase_ValueError (fun Y => PySem.HandSPX.refsVE_contains Y bm hbm) (I.kIn _ _ hC) (PySem.W.looks_findIn I.kIn iC) (fun self => PySem.W.bind_fn I.kIn self tI) (Nat.zero_le _)
    (codeAny_mono (F1.run _ X.stack _ H ⟨[Value.ref (hp.objs.size + 1)], []⟩ [Value.ref (hp.objs.size + 1)] [V.ref (hp.objs.size + 1)] (fun v H2 => v = .non ∧ H2 = H) (fun _ _ _ => False)
      (hr.make C [] []) (I2.env0.make C [] []) (by have b1 := hb ⟨_, g, dr, tk, os⟩ [Value.ref (hp.objs.size + 1)] I2.kIn rfl; rwa [List.append_nil] at b1) (.cons rfl .nil) ⟨_, rfl, rfl, rfl⟩) fun r s' hq => ?_))
  cases r with
  | error er => exact hq.elim
  | ok fl =>
    cases fl with
    | next => exact False.elim hq
    | brk => exact False.elim hq
    | cont => exact False.elim hq
    | ret u =>
      obtain ⟨v, H2, os2, bare2, un, hok, rv, ev, eH⟩ := hq
      subst ev eH
      refine ⟨rv, ?_⟩
      obtain ⟨h2, g2, d2, t2, os'⟩ := s'
      have old : ∀ {b : Addr} {o : Obj}, hp.get? b = some o → b ≠ hp.objs.size + 1 := fun {b o} z => Nat.ne_of_lt (Nat.lt_succ_of_lt (Heap.lt_size z))
      obtain ⟨G, ga, gb⟩ := restrict h2 fun b => decide (b ≠ hp.objs.size + 1)
      have gk : ∀ b, b ≠ hp.objs.size + 1 → G.get? b = h2.get? b := fun b hb => ga b (decide_eq_true hb)
      have ge : G.get? (hp.objs.size + 1) = none := gb _ (by simp)
      have nfr : hp.objs.size + 1 ∉ frs X.stack := fun hm => by
        obtain ⟨_, o, ho, _⟩ := I.stack.mem hm
        exact absurd (Heap.lt_size ho) (Nat.not_lt.mpr (Nat.le_succ _))
      have he : h2.get? (hp.objs.size + 1) = some (PySem.HandSPX.excO C hp.objs.size) := un.keep _ _ hget hn nfr (by simp)
      have U : Un (frs X.stack) [] H2 H2 hp G := {
        keep := fun b o z n hf hx => (gk b (old z)).trans (un.keep b o (keep2 b o z) n hf hx)
        slot := fun b o z n hf hx => by
          obtain ⟨sl, e⟩ := un.slot b o (keep2 b o z) n hf hx
          exact ⟨sl, (gk b (old z)).trans e⟩
        free := fun b o z n hx => n
        there := fun b o z hx => by
          obtain ⟨o', e⟩ := un.there b o (keep2 b o z) hx
          exact ⟨o', (gk b (old z)).trans e⟩
        tups := fun b xs z => z
        frzs := fun b o v z => z
        tbls := fun b ps z => ⟨#[], by rw [z]; simp⟩ }
      have hok2 : HOk X.prog X.w H2 G := fun b o z => by
        have nb : ∀ {c : Addr} {o : HO}, H2 c = some o → c ≠ hp.objs.size + 1 := fun {c o} e i => by
          rw [i, hn] at e
          cases e
        exact (hok b o z).stay (fun c v hc y => by
          rcases hc with hc | hc
          · rw [gk c (by rw [hc]; exact nb z)]; exact y
          · rw [gk c (nb hc)]; exact y) (fun _ e => e) fun _ _ e => e
      have J : Inv X pins σ H2 ⟨G, g2, d2, t2, os'⟩ := I.call' (ch := []) os2 U hok2 bare2 fun b z => absurd z (by simp)
      refine ⟨_, _, _, ⟨G, g2, d2, t2, os'⟩, H2, .ref C, none, rfl, J, fun b o z => ?_, ge, he, ⟨rfl, rfl⟩, rfl, rfl, hn, rfl, bare2, raises_own T.exC T.tyC, h⟩
      by_cases hba : b = hp.objs.size + 1
      · have z' : G.get? b = some o := z
        rw [hba, ge] at z'
        cases z'
      · exact (gk b hba).symm.trans z
end
end My
set_option Elab.async false
set_option maxRecDepth 100000
set_option maxHeartbeats 4000000
namespace My
open PySem PySem.Spec PyProof.Rows L2
/-! ### own error classes with one field -/
/-- __init__(self, f): self.f = f -/
def sp_efld (C : Addr) (f : Str) : Sp := fun vs H Q _ => ∃ (a : Addr) (y : V), vs = [.ref a, y] ∧ H a = some (exo a C none) ∧ ∀ dx, H dx = none → dx ≠ a → Q .non (upd (upd H dx (exd dx [(f, y)])) a (exo a C (some dx)))
structure ErrF (K : PySem.W.Frag) (mg : Str → Option Value) (x f : Str) (C fI : Addr) (fd : FuncData) : Prop where
  g : mg x = some (.ref C)
  oex : OexC K C
  iC : PySem.W.findIn K (.ref C) "__init__" = some (some (.ref fI))
  tI : PySem.W.typeIn K (.ref fI) = some (.type "function")
  b : Binds K fd ["self", f] []
  te : PySem.W.exmOne K (.ref C) (.ref C) = some true
  xf : XfC K C
  no : PySem.W.findIn K (.ref C) f = some none
section
variable {X : Cx} {x f : Str} {p pos : Pos} {e : Expr} {te : TE}
theorem pe_wk (h : PE X e te) : PE X e (fun σ H Q => ∃ R : VK, te σ H R ∧ ∀ v H', R v H' → Q v H') := by
  refine ⟨fun pins s σ H Q I z => ?_⟩
  obtain ⟨R, z1, z2⟩ := z
  refine thn (h.run pins s σ H R I z1) fun u s' y => ?_
  obtain ⟨v, H', I', r, q⟩ := y
  exact ⟨v, H', I', r, z2 _ _ q⟩
theorem pmk_fld {C fI : Addr} {k : Nat} {fd : FuncData} {ps : List Str} (T : OexC X.K C) (iC : PySem.W.findIn X.K (.ref C) "__init__" = some (some (.ref fI))) (tI : PySem.W.typeIn X.K (.ref fI) = some (.type "function"))
    (F1 : FnOk X.prog X.w X.K X.mg X.base CX0 k fI fd ps (sp_efld C f)) (hr : Room (k + 1) X.A) (hb : Binds X.K fd ps []) (hg : Gl X x) (hm : X.mg x = some (.ref C)) (he : PE X e te) (hdb : (x == ("__debug__" : Str)) = false := by decide)
    (hst : starEach [e] X.env = (false, eval e X.env) :: starEach [] X.env := by rfl) :
    PMk X (.Call (.Name x p) [e] [] pos) (fun σ H Q => te σ H fun y H1 => ∀ d H', H1 d = none → Same H1 H' → H' d = some (.xd [(f, y)]) → Q (.ref C) (some d) H') := by
  intro pins s σ H Q I h
  refine pmk_oex (dvs := []) T iC tI F1 hr hb .nil (fun _ _ _ _ _ _ _ z => z.elim) hg hm (pa_cons (pe_wk he) pa_nil hst) hdb hst rfl pins s σ H Q I ?_
  refine ⟨_, h, fun y H1 z => ⟨by show (1 : Nat) ≤ 1000; decide, fun a ha => ⟨a, y, rfl, upd_same, fun dx hdx hda => ⟨rfl, dx, [(f, y)], upd_same, ?_, ?_, ?_⟩⟩⟩⟩
  · rw [upd_ne hda, upd_same]
  · rw [upd_ne hda] at hdx
    exact hdx
  · rw [upd_ne hda] at hdx
    refine z dx _ hdx (fun b o hb => ?_) upd_same
    have n1 : b ≠ dx := ne_of_none hb hdx
    have n2 : b ≠ a := ne_of_none hb ha
    rw [upd_ne n1, del_ne n2, upd_ne n2, upd_ne n1, upd_ne n2]
    exact hb
/-- what a callee raises, handed on -/
theorem pass_of {E : XK} (tk : Takes X (fun cls d _ H => E cls d H)) : Passes (L2.CX X.prog X.w) X E := fun _ _ _ _ e s' I c => tk e s' (XE.of_call I (fun _ _ _ h => h) c)
end
end My
set_option Elab.async false
set_option maxRecDepth 100000
set_option maxHeartbeats 4000000
namespace My
open PySem L2
/-! ### lists of ints and of bools as data -/
theorem lay_ints : ∀ ns : List Int, PyData.canLayAll0 (ns.map PyData.int) = true ∧ PyData.depthAll (ns.map PyData.int) = 0
  | [] => by simp [PyData.canLayAll0, PyData.depthAll]
  | n :: r => by
    have h := lay_ints r
    simp [PyData.canLayAll0, PyData.depthAll, PyData.canLay0, PyData.depth, h.1, h.2]
theorem lay_bls : ∀ ns : List Bool, PyData.canLayAll0 (ns.map PyData.bool) = true ∧ PyData.depthAll (ns.map PyData.bool) = 0
  | [] => by simp [PyData.canLayAll0, PyData.depthAll]
  | n :: r => by
    have h := lay_bls r
    simp [PyData.canLayAll0, PyData.depthAll, PyData.canLay0, PyData.depth, h.1, h.2]
theorem shaped_ints (ns : List Int) : SeqAt.shaped (.list (ns.map .int)) = true := by
  have h := lay_ints ns
  simp [SeqAt.shaped, PyData.canLay0, PyData.depth, h.1, h.2]
theorem shaped_intsT (ns : List Int) : SeqAt.shaped (.tuple (ns.map .int)) = true := by
  have h := lay_ints ns
  simp [SeqAt.shaped, PyData.canLay0, PyData.depth, h.1, h.2]
theorem shaped_bls (ns : List Bool) : SeqAt.shaped (.list (ns.map .bool)) = true := by
  have h := lay_bls ns
  simp [SeqAt.shaped, PyData.canLay0, PyData.depth, h.1, h.2]
theorem eqv_ints : ∀ ns ms : List Int, PyData.eqvAll (ns.map .int) (ms.map .int) = decide (ns = ms)
  | [], [] => by simp [PyData.eqvAll]
  | [], _ :: _ => by simp [PyData.eqvAll]
  | _ :: _, [] => by simp [PyData.eqvAll]
  | n :: r, m :: t => by
    have h := eqv_ints r t
    simp only [List.map_cons, PyData.eqvAll, PyData.eqv, h, List.cons.injEq, Bool.decide_and]
    congr 1
theorem eqv_bls : ∀ ns ms : List Bool, PyData.eqvAll (ns.map .bool) (ms.map .bool) = decide (ns = ms)
  | [], [] => by simp [PyData.eqvAll]
  | [], _ :: _ => by simp [PyData.eqvAll]
  | _ :: _, [] => by simp [PyData.eqvAll]
  | n :: r, m :: t => by
    have h := eqv_bls r t
    simp only [List.map_cons, PyData.eqvAll, PyData.eqv, h, List.cons.injEq, Bool.decide_and]
    congr 1
theorem dp_ints {K : PySem.W.Frag} {H : Hp} : ∀ ns : List Int, DpAll K H (ns.map V.int) (ns.map .int)
  | [] => .nil
  | n :: r => .cons (.int n) (dp_ints r)
theorem dp_bls {K : PySem.W.Frag} {H : Hp} : ∀ ns : List Bool, DpAll K H (ns.map V.bl) (ns.map .bool)
  | [] => .nil
  | n :: r => .cons (.bl n) (dp_bls r)
/-- == of two lists of ints | bools, of two tuples of ints -/
theorem eq_ints {K : PySem.W.Frag} {H : Hp} {Q : VK} {a b : Addr} {ns ms : List Int} (ha : SqL K H a (ns.map V.int)) (hb : SqL K H b (ms.map V.int)) (q : Q (.bl (decide (ns = ms))) H) : rEqD K (.ref a) (.ref b) H Q :=
  ⟨_, _, .lst ha (dp_ints ns), .lst hb (dp_ints ms), shaped_ints _, shaped_ints _, by rw [show PyData.eqv (.list (ns.map .int)) (.list (ms.map .int)) = decide (ns = ms) from by rw [← eqv_ints]; simp [PyData.eqv]]; exact q⟩
theorem ne_ints {K : PySem.W.Frag} {H : Hp} {Q : VK} {a b : Addr} {ns ms : List Int} (ha : SqL K H a (ns.map V.int)) (hb : SqL K H b (ms.map V.int)) (q : Q (.bl (!decide (ns = ms))) H) : rNeD K (.ref a) (.ref b) H Q :=
  ⟨_, _, .lst ha (dp_ints ns), .lst hb (dp_ints ms), shaped_ints _, shaped_ints _, by rw [show PyData.eqv (.list (ns.map .int)) (.list (ms.map .int)) = decide (ns = ms) from by rw [← eqv_ints]; simp [PyData.eqv]]; exact q⟩
theorem ne_intsT {K : PySem.W.Frag} {H : Hp} {Q : VK} {a b : Addr} {ns ms : List Int} (ha : SqT K H a (ns.map V.int)) (hb : SqT K H b (ms.map V.int)) (q : Q (.bl (!decide (ns = ms))) H) : rNeD K (.ref a) (.ref b) H Q :=
  ⟨_, _, .tup ha (dp_ints ns), .tup hb (dp_ints ms), shaped_intsT _, shaped_intsT _, by rw [show PyData.eqv (.tuple (ns.map .int)) (.tuple (ms.map .int)) = decide (ns = ms) from by rw [← eqv_ints]; simp [PyData.eqv]]; exact q⟩
theorem eq_bls {K : PySem.W.Frag} {H : Hp} {Q : VK} {a b : Addr} {ns ms : List Bool} (ha : SqL K H a (ns.map V.bl)) (hb : SqL K H b (ms.map V.bl)) (q : Q (.bl (decide (ns = ms))) H) : rEqD K (.ref a) (.ref b) H Q :=
  ⟨_, _, .lst ha (dp_bls ns), .lst hb (dp_bls ms), shaped_bls _, shaped_bls _, by rw [show PyData.eqv (.list (ns.map .bool)) (.list (ms.map .bool)) = decide (ns = ms) from by rw [← eqv_bls]; simp [PyData.eqv]]; exact q⟩
theorem ne_bls {K : PySem.W.Frag} {H : Hp} {Q : VK} {a b : Addr} {ns ms : List Bool} (ha : SqL K H a (ns.map V.bl)) (hb : SqL K H b (ms.map V.bl)) (q : Q (.bl (!decide (ns = ms))) H) : rNeD K (.ref a) (.ref b) H Q :=
  ⟨_, _, .lst ha (dp_bls ns), .lst hb (dp_bls ms), shaped_bls _, shaped_bls _, by rw [show PyData.eqv (.list (ns.map .bool)) (.list (ms.map .bool)) = decide (ns = ms) from by rw [← eqv_bls]; simp [PyData.eqv]]; exact q⟩

/-! ### day sets as naturals -/
def nInt (ds : List Nat) : List Int := ds.map fun d : Nat => (d : Int)
/-- the set with these days -/
def setOf (ds : List Nat) : Nat := ds.foldl (fun s d => s ||| 2 ^ d) 0
theorem bit_pow (d i : Nat) : (2 ^ d).testBit i = decide (d = i) := Nat.testBit_two_pow
theorem setOf_go (ds : List Nat) (s i : Nat) : (ds.foldl (fun s d => s ||| 2 ^ d) s).testBit i = (s.testBit i || decide (i ∈ ds)) := by
  induction ds generalizing s with
  | nil => simp
  | cons d r ih =>
    rw [List.foldl_cons, ih, Nat.testBit_or, bit_pow]
    by_cases h : d = i
    · subst h; simp
    · have h2 : ¬ i = d := fun e => h e.symm
      simp [h, h2]
theorem setOf_bit (ds : List Nat) (i : Nat) : (setOf ds).testBit i = decide (i ∈ ds) := by
  unfold setOf
  rw [setOf_go]
  simp
theorem setOf_ext {ds es : List Nat} (h : ∀ i, i ∈ ds ↔ i ∈ es) : setOf ds = setOf es := by
  refine Nat.eq_of_testBit_eq fun i => ?_
  rw [setOf_bit, setOf_bit]
  simp [h i]
/-- a bit that is not there, added -/
theorem add_bit {s d : Nat} (h : s.testBit d = false) : s + 2 ^ d = s ||| 2 ^ d := by
  have e := Nat.div_add_mod s (2 ^ (d + 1))
  have hr : s % 2 ^ (d + 1) < 2 ^ d := by
    have h1 := Nat.testBit_eq_decide_div_mod_eq (x := s) (i := d)
    rw [h] at h1
    have h2 : ¬ (s / 2 ^ d % 2 = 1) := by simpa using h1.symm
    have h3 : s % 2 ^ (d + 1) = s % 2 ^ d + 2 ^ d * (s / 2 ^ d % 2) := by rw [Nat.pow_succ, Nat.mod_mul]
    have h4 : s / 2 ^ d % 2 = 0 := by omega
    rw [h3, h4]
    have := Nat.mod_lt s (Nat.two_pow_pos d)
    omega
  have h5 : 2 ^ d + s % 2 ^ (d + 1) = 2 ^ d ||| s % 2 ^ (d + 1) := by
    have := Nat.two_pow_add_eq_or_of_lt hr 1
    simpa using this
  have h6 : 2 ^ d + s % 2 ^ (d + 1) < 2 ^ (d + 1) := by have e2 := Nat.pow_succ (n := 2) (m := d); omega
  have h7 := Nat.two_pow_add_eq_or_of_lt h6 (s / 2 ^ (d + 1))
  have h8 := Nat.two_pow_add_eq_or_of_lt (Nat.lt_trans hr (Nat.pow_lt_pow_right (by decide) (Nat.lt_succ_self d))) (s / 2 ^ (d + 1))
  calc s + 2 ^ d = 2 ^ (d + 1) * (s / 2 ^ (d + 1)) + (2 ^ d + s % 2 ^ (d + 1)) := by omega
    _ = 2 ^ (d + 1) * (s / 2 ^ (d + 1)) ||| (2 ^ d ||| s % 2 ^ (d + 1)) := by rw [h7, h5]
    _ = (2 ^ (d + 1) * (s / 2 ^ (d + 1)) ||| s % 2 ^ (d + 1)) ||| 2 ^ d := by rw [Nat.or_comm (2 ^ d), Nat.or_assoc]
    _ = s ||| 2 ^ d := by rw [← h8, e]
theorem sum_go (ds : List Nat) (s : Nat) (hn : ds.Nodup) (hs : ∀ d ∈ ds, s.testBit d = false) : s + (ds.map fun d => 2 ^ d).sum = ds.foldl (fun s d => s ||| 2 ^ d) s := by
  induction ds generalizing s with
  | nil => simp
  | cons d r ih =>
    rw [List.nodup_cons] at hn
    rw [List.map_cons, List.sum_cons, List.foldl_cons, ← ih _ hn.2, ← Nat.add_assoc, add_bit (hs d List.mem_cons_self)]
    intro i hi
    have hd : d ≠ i := fun e => hn.1 (e ▸ hi)
    rw [Nat.testBit_or, bit_pow, hs i (List.mem_cons_of_mem _ hi)]
    simp [hd]
theorem sum_setOf {ds : List Nat} (hn : ds.Nodup) : (ds.map fun d => 2 ^ d).sum = setOf ds := by
  have := sum_go ds 0 hn (fun d _ => Nat.zero_testBit d)
  unfold setOf
  omega
/-- the days in a set below 2 ^ 16 -/
def daysOf (n : Nat) : List Nat := (List.range 16).filter fun d => n.testBit d
theorem mem_daysOf {n d : Nat} : d ∈ daysOf n ↔ d < 16 ∧ n.testBit d = true := by
  unfold daysOf
  rw [List.mem_filter, List.mem_range]
theorem daysOf_more {n m : Nat} (h : n < 2 ^ m) (hm : m ≤ 16) : (List.range m).filter (fun d => n.testBit d) = daysOf n := by
  obtain ⟨k, hk⟩ := Nat.exists_eq_add_of_le hm
  unfold daysOf
  rw [hk, List.range_add, List.filter_append]
  have e : (List.map (fun x => m + x) (List.range k)).filter (fun d => n.testBit d) = [] := by
    rw [List.filter_eq_nil_iff]
    intro a ha
    obtain ⟨j, _, rfl⟩ := List.mem_map.mp ha
    rw [Nat.testBit_lt_two_pow (Nat.lt_of_lt_of_le h (Nat.pow_le_pow_right (by decide) (Nat.le_add_right m j)))]
    decide
  rw [e, List.append_nil]
/-- sorted days below 16 are the days of their set -/
theorem daysOf_filter {m : Nat} (f : Nat → Bool) (hm : m ≤ 16) : daysOf (setOf ((List.range m).filter f)) = (List.range m).filter f := by
  obtain ⟨k, hk⟩ := Nat.exists_eq_add_of_le hm
  unfold daysOf
  rw [hk, List.range_add, List.filter_append]
  have e : (List.map (fun x => m + x) (List.range k)).filter (fun d => (setOf ((List.range m).filter f)).testBit d) = [] := by
    rw [List.filter_eq_nil_iff]
    intro a ha
    obtain ⟨j, _, rfl⟩ := List.mem_map.mp ha
    rw [setOf_bit]
    have z : ¬ m + j < m := by omega
    simp [z]
  rw [e, List.append_nil]
  refine List.filter_congr fun d hd => ?_
  have hd' := List.mem_range.mp hd
  rw [setOf_bit]
  simp [hd']
theorem setOf_lt {ds : List Nat} {m : Nat} (h : ∀ d ∈ ds, d < m) : setOf ds < 2 ^ m := by
  refine Nat.lt_pow_two_of_testBit _ fun i hi => ?_
  rw [setOf_bit]
  simp only [decide_eq_false_iff_not]
  intro hm
  have := h i hm
  omega
/-- one set within another -/
theorem sub_iff (a b : Nat) : a &&& b = a ↔ ∀ i, a.testBit i = true → b.testBit i = true := by
  constructor
  · intro h i hi
    have : (a &&& b).testBit i = true := by rw [h]; exact hi
    rw [Nat.testBit_and] at this
    exact (Bool.and_eq_true_iff.mp this).2
  · intro h
    refine Nat.eq_of_testBit_eq fun i => ?_
    rw [Nat.testBit_and]
    cases e : a.testBit i with
    | false => rfl
    | true => rw [h i e]; rfl
end My
set_option Elab.async false
set_option maxRecDepth 100000
set_option maxHeartbeats 4000000
namespace My
open PySem L2
/-! ### rules with the written part named: for the blocks of comprehensions -/
section
variable {X : Cx} {K : PySem.W.Frag}
theorem ix_listK (h : X.K = K) : IxR X (rIxL K) := by subst h; exact ix_list
theorem ix_tupK (h : X.K = K) : IxR X (rIxT K) := by subst h; exact ix_tup
theorem op_eqDK (h : X.K = K) (hu : X.A.units + 64 < cLine) : OpR X (compareOp .Eq) (rEqD K) := by subst h; exact op_eqD hu
theorem op_neDK (h : X.K = K) (hu : X.A.units + 64 < cLine) : OpR X (compareOp .NotEq) (rNeD K) := by subst h; exact op_neD hu
theorem op_inK (h : X.K = K) : OpR X (compareOp .In) (rIn K false) := by subst h; exact op_in_seq
theorem op_notInK (h : X.K = K) : OpR X (compareOp .NotIn) (rIn K true) := by subst h; exact op_notIn_seq
def rLenK (K : PySem.W.Frag) : List V → Hp → VK → Prop := fun xs H Q => ∃ p ys, xs = [.ref p] ∧ (SqL K H p ys ∨ SqT K H p ys) ∧ Q (.int (ys.length : Nat)) H
theorem call_lenK (h : X.K = K) : CallR X (.builtin "len") (rLenK K) := by subst h; exact call_len_seq
theorem call_isiKn (h : X.K = K) : CallR X (.builtin "isinstance") (rIsi K) := by subst h; exact call_isi
def tTruK (K : PySem.W.Frag) (ta : TE) : TT := fun σ H Q => ta σ H fun x H' => ∃ k, TruV K x H' k ∧ Q k H'
theorem pt_truthK {a : Expr} {ta : TE} (h : X.K = K) (ha : PE X a ta) (he : ∀ whole, isTrue a X.env whole = (do let v ← whole; standAt a.pos; holding [v] (truthy v)) := by intro _; rfl) : PT X a (tTruK K ta) := by
  subst h; exact pt_truth ha he
theorem pe_fldK {e : Expr} {f : Str} {pos : Pos} {ta : TE} (h : X.K = K) (he : PE X e ta) (hb : attributeBase e f X.env (eval e X.env) = eval e X.env := by rfl) : PE X (.Attribute e f pos) (tFld K ta f) := by
  subst h; exact pe_fld he hb
end
end My
namespace My
open PySem L2
/-! ### comprehensions over a list, each element by itself -/
theorem wipe1 (σ : St) (j : Nat) (v : Option V) : wipe ((wipe σ [j]).set j v) [j] = wipe σ [j] := by
  show (((σ.set j none).set j v).set j none) = σ.set j none
  rw [List.set_set, List.set_set]
/-- [e for x in xs], the heap but for new objects as it was -/
theorem lc_mapL {K : PySem.W.Frag} {a D : Addr} {xs ys : List V} {j : Nat} {te : TE} {σ : St} {H : Hp} {Qd : Hp → Prop} (hS : SqL K H a xs) (hD : H D = none) (hl : xs.length = ys.length) (hn : xs.length ≤ 100000)
    (he : ∀ (i : Nat) (x y : V) (H2 : Hp), xs[i]? = some x → ys[i]? = some y → Same H H2 → ∀ Q : VK, (∀ H3, Same H2 H3 → Q y H3) → te ((wipe σ [j]).set j (some x)) H2 Q)
    (hd : ∀ H2, Same H H2 → H2 D = some (.lst ys) → Qd H2) :
    ∃ W : Nat → Nat → Hp → Prop, (∃ m, W 0 m (upd H D (.lst []))) ∧ ∀ i m H, W i m H →
      ((Itl K a).stop i H ∧ Qd H) ∨ ((Itl K a).go i H ∧ ∃ Nx : Hp → Prop, (∀ H', Nx H' → ∃ m', m' < m ∧ W (i + 1) m' H') ∧ ∀ x H', (Itl K a).yld i H x H' → gName j x (wipe σ [j]) H' fun σ2 H2 => wipe σ2 [j] = wipe σ [j] ∧ tYes σ2 H2 fun b H3 =>
        if b = true then te σ2 H3 fun y H4 => ∃ acc, H4 D = some (.lst acc) ∧ acc.length < sizeLine ∧ Nx (upd H4 D (.lst (acc ++ [y]))) else Nx H3) := by
  have sD : Same H (upd H D (.lst [])) := fun b o e => by
    rw [upd_ne (ne_of_none e hD)]; exact e
  refine lc_list (K := K) (a := a) (xs := xs) (fun i H2 => Same H H2 ∧ H2 D = some (.lst (ys.take i))) ⟨sD, upd_same⟩ (fun i H2 _ h => h.1.seq hS) ?_ ?_
  · rintro i x H2 hi ⟨s2, h2⟩
    have hi1 : i < xs.length := (List.getElem?_eq_some_iff.mp hi).1
    have hy : ys[i]? = some (ys[i]'(by omega)) := List.getElem?_eq_getElem _
    refine ⟨wipe1 σ j _, ?_⟩
    refine iteT (B := Same H H2 ∧ H2 D = some (.lst (ys.take (i + 1)))) ?_
    refine he i x _ H2 hi hy s2 _ fun H3 s3 => ?_
    refine ⟨_, s3 _ _ h2, ?_, fun b o e => ?_, ?_⟩
    · rw [List.length_take]
      exact Nat.lt_of_le_of_lt (Nat.min_le_left _ _) (Nat.lt_of_lt_of_le hi1 (Nat.le_trans hn (by decide)))
    · rw [upd_ne (ne_of_none e hD)]
      exact s3 _ _ (s2 _ _ e)
    · rw [upd_same, List.take_add_one, hy]
      rfl
  · rintro H2 ⟨s2, h2⟩
    refine hd H2 s2 ?_
    rw [h2, hl, List.take_length]
/-- [x for x in xs if t], the test leaves the heap but for new objects as it was -/
theorem lc_filterL {K : PySem.W.Frag} {a D : Addr} {xs : List V} {j : Nat} {tt : TT} {σ : St} {H : Hp} {Qd : Hp → Prop} (f : V → Bool) (hj : j < σ.length) (hS : SqL K H a xs) (hD : H D = none) (hn : xs.length ≤ 100000)
    (ht : ∀ (i : Nat) (x : V) (H2 : Hp), xs[i]? = some x → Same H H2 → ∀ Q : Bool → Hp → Prop, (∀ H3, Same H2 H3 → Q (f x) H3) → tt ((wipe σ [j]).set j (some x)) H2 Q)
    (hd : ∀ H2, Same H H2 → H2 D = some (.lst (xs.filter f)) → Qd H2) :
    ∃ W : Nat → Nat → Hp → Prop, (∃ m, W 0 m (upd H D (.lst []))) ∧ ∀ i m H, W i m H →
      ((Itl K a).stop i H ∧ Qd H) ∨ ((Itl K a).go i H ∧ ∃ Nx : Hp → Prop, (∀ H', Nx H' → ∃ m', m' < m ∧ W (i + 1) m' H') ∧ ∀ x H', (Itl K a).yld i H x H' → gName j x (wipe σ [j]) H' fun σ2 H2 => wipe σ2 [j] = wipe σ [j] ∧ tt σ2 H2 fun b H3 =>
        if b = true then tVar j σ2 H3 fun y H4 => ∃ acc, H4 D = some (.lst acc) ∧ acc.length < sizeLine ∧ Nx (upd H4 D (.lst (acc ++ [y]))) else Nx H3) := by
  have sD : Same H (upd H D (.lst [])) := fun b o e => by
    rw [upd_ne (ne_of_none e hD)]; exact e
  refine lc_list (K := K) (a := a) (xs := xs) (fun i H2 => Same H H2 ∧ H2 D = some (.lst ((xs.take i).filter f))) ⟨sD, upd_same⟩ (fun i H2 _ h => h.1.seq hS) ?_ ?_
  · rintro i x H2 hi ⟨s2, h2⟩
    have hi1 : i < xs.length := (List.getElem?_eq_some_iff.mp hi).1
    have et : (xs.take (i + 1)).filter f = (xs.take i).filter f ++ (if f x = true then [x] else []) := by
      rw [List.take_add_one, hi, List.filter_append]
      by_cases z : f x = true <;> simp [z]
    refine ⟨wipe1 σ j _, ht i x H2 hi s2 _ fun H3 s3 => ?_⟩
    refine ite2 (fun z => ?_) (fun z => ?_)
    · refine ⟨x, ?_, _, s3 _ _ h2, ?_, fun b o e => ?_, ?_⟩
      · show ((σ.set j none).set j (some x))[j]? = some (some x)
        rw [List.set_set, List.getElem?_set_self hj]
      · refine Nat.lt_of_le_of_lt (List.length_filter_le _ _) ?_
        rw [List.length_take]
        exact Nat.lt_of_le_of_lt (Nat.min_le_left _ _) (Nat.lt_of_lt_of_le hi1 (Nat.le_trans hn (by decide)))
      · rw [upd_ne (ne_of_none e hD)]
        exact s3 _ _ (s2 _ _ e)
      · rw [upd_same, et, if_pos z]
    · refine ⟨s2.trans s3, ?_⟩
      rw [s3 _ _ h2, et, if_neg z, List.append_nil]
  · rintro H2 ⟨s2, h2⟩
    refine hd H2 s2 ?_
    rw [h2, List.take_length]
end My
set_option Elab.async false
set_option maxRecDepth 100000
set_option maxHeartbeats 4000000
namespace My
open PySem L2
/-! ### lists of days, bits -/
def dys (ds : List Nat) : List V := (nInt ds).map V.int
theorem dys_len (ds : List Nat) : (dys ds).length = ds.length := by unfold dys nInt; rw [List.length_map, List.length_map]
theorem dys_app (ds es : List Nat) : dys (ds ++ es) = dys ds ++ dys es := by unfold dys nInt; rw [List.map_append, List.map_append]
theorem dys_at {ds : List Nat} {i : Nat} {x : V} (h : (dys ds)[i]? = some x) : ∃ d : Nat, ds[i]? = some d ∧ x = .int (d : Int) := by
  unfold dys nInt at h
  rw [List.getElem?_map, List.getElem?_map] at h
  cases e : ds[i]? with
  | none => rw [e] at h; cases h
  | some d => rw [e] at h; exact ⟨d, rfl, (Option.some.inj h).symm⟩
theorem filter_step (f : Nat → Bool) (i : Nat) : (List.range (i + 1)).filter f = (List.range i).filter f ++ (if f i = true then [i] else []) := by
  rw [List.range_succ, List.filter_append]
  congr 1
  by_cases h : f i = true <;> simp [h]
theorem bit_test (n d : Nat) : (Builtin.bitAnd ((n : Int) / 2 ^ (d : Int).toNat) 1 != 0) = n.testBit d := by
  have e1 : ((n : Int) / 2 ^ (d : Int).toNat) = ((n / 2 ^ d : Nat) : Int) := by
    rw [Int.toNat_natCast, ← PySem.W.kbt_cast]
    rfl
  rw [e1, PyProof.Rows.bitAnd_m1, Nat.testBit_eq_decide_div_mod_eq]
  generalize n / 2 ^ d = k
  have h : ((k : Int) % 2 = 0 ∧ k % 2 = 0) ∨ ((k : Int) % 2 = 1 ∧ k % 2 = 1) := by omega
  rcases h with ⟨h1, h2⟩ | ⟨h1, h2⟩ <;> simp [h1, h2]
theorem fold_take {ds : List Nat} {i d : Nat} (h : ds[i]? = some d) : setOf (ds.take (i + 1)) = setOf (ds.take i) ||| 2 ^ d := by
  have e : ds.take (i + 1) = ds.take i ++ [d] := by
    rw [List.take_add_one, h]; rfl
  unfold setOf
  rw [e, List.foldl_append]
  rfl
theorem or_pow (s d : Nat) : Builtin.bitOr (s : Int) (1 * 2 ^ (d : Int).toNat) = ((s ||| 2 ^ d : Nat) : Int) := by
  rw [Int.toNat_natCast, Int.one_mul, ← PySem.W.kbt_cast, bitOr_nn (Int.natCast_nonneg _) (Int.natCast_nonneg _), Int.toNat_natCast, Int.toNat_natCast]
theorem dys_flat (ds : List Nat) : (dys ds).all flatV = true := by
  unfold dys nInt
  simp [flatV]
theorem inV_dys (d : Nat) (ds : List Nat) : inV (.int (d : Int)) (dys ds) = decide (d ∈ ds) := by
  unfold inV dys nInt
  induction ds with
  | nil => rfl
  | cons e r ih =>
    rw [List.map_cons, List.map_cons, List.any_cons, ih]
    have : eqV (V.int (e : Int)) (V.int (d : Int)) = decide (d = e) := by
      show ((e : Int) == (d : Int)) = decide (d = e)
      by_cases h : d = e
      · subst h; simp
      · have h2 : ¬ (e : Int) = (d : Int) := by omega
        simp [h, h2]
    rw [this]
    by_cases h : d = e <;> simp [h]
theorem dys_filter (f : V → Bool) (g : Nat → Bool) (h : ∀ d : Nat, f (.int (d : Int)) = g d) : ∀ ds : List Nat, (dys ds).filter f = dys (ds.filter g)
  | [] => rfl
  | d :: r => by
    have ih := dys_filter f g h r
    show (V.int (d : Int) :: dys r).filter f = _
    by_cases z : g d = true
    · rw [List.filter_cons_of_pos (by rw [h]; exact z), List.filter_cons_of_pos z, ih]; rfl
    · rw [List.filter_cons_of_neg (by rw [h]; exact z), List.filter_cons_of_neg z, ih]
theorem dys_take (ds : List Nat) (n : Nat) : (dys ds).take n = dys (ds.take n) := by unfold dys nInt; rw [List.map_take, List.map_take]
theorem dys_rev (ds : List Nat) : (dys ds).reverse = dys ds.reverse := by unfold dys nInt; rw [List.map_reverse, List.map_reverse]
theorem dys_eq (ds es : List Nat) : (nInt ds = nInt es) ↔ ds = es := by
  unfold nInt
  constructor
  · intro h
    exact (List.map_inj_right (fun a b e => Int.ofNat.inj e)).mp h
  · rintro rfl; rfl
theorem pow_sum (ds : List Nat) : (ds.map fun d : Nat => (1 : Int) * 2 ^ (d : Int).toNat).sum = (((ds.map fun d => 2 ^ d).sum : Nat) : Int) := by
  induction ds with
  | nil => rfl
  | cons d r ih =>
    rw [List.map_cons, List.sum_cons, ih, List.map_cons, List.sum_cons, Int.toNat_natCast, Int.one_mul, ← PySem.W.kbt_cast]
    rfl
theorem cut1 (ds : List Nat) : cutV (dys ds) none (some 1) = dys (ds.take 1) := by
  unfold cutV
  rw [HT.sIx_none, List.drop_zero, show HT.sIx (dys ds).length (dys ds).length (some 1) = min 1 (dys ds).length from HT.sIx_nat _ _ 1, dys_len, Nat.sub_zero, dys_take]
  congr 1
  cases ds with
  | nil => rfl
  | cons d r =>
    have : min 1 (d :: r).length = 1 := by simp
    rw [this]
theorem setOf_days {n : Nat} (h : n < 2 ^ 16) : setOf (daysOf n) = n := by
  refine Nat.eq_of_testBit_eq fun i => ?_
  rw [setOf_bit]
  by_cases hi : i < 16
  · simp [mem_daysOf, hi]
  · have : n.testBit i = false := Nat.testBit_lt_two_pow (Nat.lt_of_lt_of_le h (Nat.pow_le_pow_right (by decide) (by omega)))
    rw [this]
    simp [mem_daysOf, hi]
theorem nodup_daysOf (n : Nat) : (daysOf n).Nodup := by
  unfold daysOf
  exact List.Pairwise.filter _ List.nodup_range
end My
set_option Elab.async false
set_option maxRecDepth 100000
set_option maxHeartbeats 4000000
namespace My
open PySem PySem.Spec PyProof.Rows L2 GQ
/-! ### xs != [], whatever the items are -/
def rNeE (K : PySem.W.Frag) : R2 := fun x y H Q => ∃ a b xs, x = .ref a ∧ y = .ref b ∧ H a = some (.lst xs) ∧ H b = some (.lst []) ∧ Q (.bl (!xs.isEmpty)) H
theorem op_neE {X : Cx} (hu : X.A.units + 64 < cLine) : OpR X (compareOp .NotEq) (rNeE X.K) := by
  intro pins s σ H x y v u Q I rx ry h
  obtain ⟨a, b, xs, rfl, rfl, ha, hb, q⟩ := h
  cases xs with
  | nil => exact (op_neD hu) pins s σ H _ _ v u Q I rx ry ⟨.list [], .list [], .lst (SqL.of ha) .nil, .lst (SqL.of hb) .nil, by decide +kernel, by decide +kernel, q⟩
  | cons z r =>
    cases (show v = Value.ref a from rx)
    cases (show u = Value.ref b from ry)
    obtain ⟨_, its, n, rv, h1⟩ := (show ObjOk X.prog X.w H s.heap a (.lst (z :: r)) from I.hok a _ ha)
    obtain ⟨_, its2, n2, rv2, h2⟩ := (show ObjOk X.prog X.w H s.heap b (.lst []) from I.hok b _ hb)
    cases rv2
    have hne : (its.toArray.size != (#[] : Array Value).size) = true := by
      have := rv.length
      rw [List.size_toArray, ← this]
      rfl
    show wpAny (model X.prog X.w) X.A (richCompare .NotEq (.ref a) (.ref b)) (EP X pins σ Q) X.xe s
    exact SeqAt.RcNeAt.lists_lengths ⟨_, h1, rfl, _, rfl⟩ ⟨_, h2, rfl, _, rfl⟩ hne (by omega) _ _ _ _ ⟨.bl true, H, I, rfl, q⟩
end My
set_option Elab.async false
set_option maxRecDepth 100000
set_option maxHeartbeats 4000000
namespace My
open PySem L2
def top (i : Nat) : Stmt := PySem.Challenge.pw_usualdays_k07_verdicts_joined.main.body.getD i (.Pass ⟨0, 0, 0, 0⟩)

/-- a def of the top as its callers see it -/
structure Df (K : PySem.W.Frag) (mg : Str → Option Value) (x : Str) (ps : List Str) (f : Addr) (fd : FuncData) : Prop where
  g : mg x = some (.ref f)
  kp : PySem.W.keepIn K (.ref f) = true
  b : Binds K fd ps []
/-- the built-ins' names -/
structure Bt (mg : Str → Option Value) : Prop where
  len : mg "len" = none
  abs : mg "abs" = none
  int : mg "int" = none
  enumerate : mg "enumerate" = none
  range : mg "range" = none

/-- all but b stays -/
def But (b : Addr) (H H' : Hp) : Prop := ∀ a o, a ≠ b → H a = some o → H' a = some o
theorem But.refl (b : Addr) (H : Hp) : But b H H := fun _ _ _ h => h
theorem But.trans {b : Addr} {H H1 H2 : Hp} (p : But b H H1) (q : But b H1 H2) : But b H H2 := fun a o n h => q a o n (p a o n h)
theorem But.of {b : Addr} {H H1 : Hp} (p : Same H H1) : But b H H1 := fun a o _ h => p a o h
theorem But.upd (b : Addr) (H : Hp) (o : HO) : But b H (L2.upd H b o) := fun a u n h => by rw [upd_ne n]; exact h
theorem same_new {H : Hp} {p : Addr} {o : HO} (h : H p = none) : Same H (upd H p o) := fun a u e => by
  rw [upd_ne (ne_of_none e h)]; exact e

/-- a bag: the digits left, the mix, the turns -/
def Bag (H : Hp) (b : Addr) : Prop := ∃ c m n : Int, H b = some (.lst [.int c, .int m, .int n]) ∧ 0 ≤ c ∧ 0 ≤ m ∧ m < 2 ^ 40 ∧ 0 ≤ n

def sp_l_take : Sp := fun vs H Q _ => ∃ (b : Addr) (k : Int), vs = [.ref b, .int k] ∧ Bag H b ∧ 0 < k ∧ k < 2 ^ 8000 ∧
  ∀ (r : Int) (H' : Hp), 0 ≤ r → r < k → Bag H' b → But b H H' → Q (.int r) H'

section
variable {P : Program} {w : World} {K : PySem.W.Frag} {mg : Str → Option Value} {base : Heap}
abbrev s_l_take : Stmt := top 24
abbrev N_l_take : List Str := ["_law_bag_here", "_law_many", "_law_digit"]
theorem sc_l_take : FnScope N_l_take ["_law_bag_here", "_law_many"] (defScope s_l_take) := ⟨rfl, rfl, rfl, by decide +kernel, rfl, by decide +kernel, by decide +kernel⟩
theorem ok_l_take {f : Addr} {fd : FuncData} (F : Fun K "_law_take" "_law_take" s_l_take f fd) (T : Bt mg) : FnOk P w K mg base CX0 2 f fd ["_law_bag_here", "_law_many"] sp_l_take := by
  refine F.ok sc_l_take (fun vs H Q E h => ?_) (fun cdv A outer s H vs Q E hr h => ?_)
  · obtain ⟨b, k, rfl, _⟩ := h
    rfl
  · obtain ⟨b, k, rfl, ⟨c, m, n, hb, hc, hm, hm', hn⟩, hk, hk', q⟩ := h
    refine ⟨_, (pss_cons (ps_if (pt_cmpR op_gt (pe_ix ix_list (pv 0) pe_int (fun _ _ => rfl)) pe_int (nomark _)) (pss_cons (ps_set (i := 2) sc_l_take.nd rfl (Or.inl rfl) (pe_op op_mod (pe_callTy call_int1 (by rfl) T.int (by decide +kernel) (pa_cons (pe_ix ix_list (pv 0) pe_int (fun _ _ => rfl)) pa_nil)) (pv 1)))
        (pss_cons (ps_asg (pe_op op_fdivW (pe_ix ix_list (pv 0) pe_int (fun _ _ => rfl)) (pv 1)) (pg_sub (pv 0) pe_int set_list))
        (pss_one (ps_ret (pv 2))))) pss_nil)
        (pss_cons (ps_asg (pe_op op_add (pe_ix ix_list (pv 0) pe_int (fun _ _ => rfl)) pe_int) (pg_sub (pv 0) pe_int set_list))
        (pss_cons (ps_asg (pe_op op_mod (pe_callTy call_int1 (by rfl) T.int (by decide +kernel) (pa_cons (pe_op op_add (pe_op op_add (pe_op op_mul (pe_ix ix_list (pv 0) pe_int (fun _ _ => rfl)) pe_int) (pe_op op_mul pe_int (pe_ix ix_list (pv 0) pe_int (fun _ _ => rfl)))) pe_int) pa_nil)) pe_int) (pg_sub (pv 0) pe_int set_list))
        (pss_one (ps_ret (pe_op op_mod (pe_op op_fdivW (pe_op op_mod (pe_callTy call_int1 (by rfl) T.int (by decide +kernel) (pa_cons (pe_op op_mul (pe_ix ix_list (pv 0) pe_int (fun _ _ => rfl)) pe_int) pa_nil)) pe_int) pe_int) (pv 1))))))), ?_⟩
    refine ⟨_, rfl, _, _, _, _, rfl, rfl, SqL.of hb, rfl, _, _, rfl, rfl, _, rfl, ?_⟩
    refine ite2 (fun z => ?_) (fun z => ?_)
    · have z' : 0 < c := of_decide_eq_true z
      refine ⟨_, rfl, _, _, _, _, rfl, rfl, SqL.of hb, rfl, .inl ⟨_, rfl, _, rfl, _, _, rfl, rfl, hk, ?_⟩⟩
      refine ⟨_, rfl, _, _, _, _, rfl, rfl, SqL.of hb, rfl, _, rfl, _, _, rfl, rfl, wide_div hk (b := 8000) (by omega) (by decide) (by decide), ?_⟩
      refine ⟨_, rfl, _, _, _, _, rfl, rfl, hb, rfl, ?_⟩
      refine ⟨_, rfl, ?_⟩
      refine q _ _ (Int.emod_nonneg _ (by omega)) (Int.emod_lt_of_pos _ hk) ⟨c / k, m, n, upd_same, Int.ediv_nonneg hc (by omega), hm, hm', hn⟩ (But.upd _ _ _)
    · refine ⟨_, rfl, _, _, _, _, rfl, rfl, SqL.of hb, rfl, _, _, rfl, rfl, ?_⟩
      refine ⟨_, rfl, _, _, _, _, rfl, rfl, hb, rfl, ?_⟩
      have hb2 : (upd H b (.lst ([V.int c, V.int m, V.int n].set 2 (V.int (n + 1))))) b = some (.lst [V.int c, V.int m, V.int (n + 1)]) := upd_same
      refine ⟨_, rfl, _, _, _, _, rfl, rfl, SqL.of hb2, rfl, _, _, rfl, rfl, .inr ⟨by decide, by decide⟩, ?_⟩
      refine ⟨_, rfl, _, _, _, _, rfl, rfl, SqL.of hb2, rfl, _, _, rfl, rfl, .inl ⟨by decide, by decide⟩, ?_⟩
      refine ⟨_, _, rfl, rfl, _, _, rfl, rfl, .inl ⟨_, rfl, _, _, rfl, rfl, (by show (0 : Int) < 2147483647; decide), ?_⟩⟩
      refine ⟨_, rfl, _, _, _, _, rfl, rfl, hb2, rfl, ?_⟩
      have h0 : 0 ≤ (m * 48271 + 11 * (n + 1) + 7) % 2147483647 := Int.emod_nonneg _ (by decide)
      have h1 : (m * 48271 + 11 * (n + 1) + 7) % 2147483647 < 2147483647 := Int.emod_lt_of_pos _ (by decide)
      have hb3 : (upd (upd H b (.lst ([V.int c, V.int m, V.int n].set 2 (V.int (n + 1))))) b (.lst ([V.int c, V.int m, V.int (n + 1)].set 1 (V.int ((m * 48271 + 11 * (n + 1) + 7) % 2147483647))))) b = some (.lst [V.int c, V.int ((m * 48271 + 11 * (n + 1) + 7) % 2147483647), V.int (n + 1)]) := upd_same
      refine ⟨_, rfl, _, _, _, _, rfl, rfl, SqL.of hb3, rfl, _, _, rfl, rfl, .inr ⟨by decide, by decide⟩, .inl ⟨_, rfl, ?_⟩⟩
      refine ⟨_, _, rfl, rfl, (by show (0 : Int) < 2147483629; decide), _, _, rfl, rfl, wide_div (by decide) (b := 8) (by decide) (by decide) (by decide), ?_⟩
      refine ⟨_, rfl, _, _, rfl, rfl, hk, ?_⟩
      exact q _ _ (Int.emod_nonneg _ (by omega)) (Int.emod_lt_of_pos _ hk) ⟨c, _, n + 1, hb3, hc, h0, by omega, by omega⟩ ((But.upd _ _ _).trans (But.upd _ _ _))
end
end My
set_option Elab.async false
set_option maxRecDepth 100000
set_option maxHeartbeats 4000000
namespace My
open PySem L2
/-! ### the bag, a pick -/
def sp_l_bag (K : PySem.W.Frag) : Sp := fun vs H Q _ => ∃ (a : Addr) (ns : List Int) (k : Int), vs = [.ref a, .int k] ∧ SqL K H a (ns.map V.int) ∧ ns.length ≤ 63 ∧ 0 ≤ k ∧ k < 1000 ∧
  ∀ (b : Addr) (H' : Hp), H b = none → Same H H' → Bag H' b → Q (.ref b) H'
def sp_l_of : Sp := fun vs H Q _ => ∃ (b a : Addr) (xs : List V), vs = [.ref b, .ref a] ∧ Bag H b ∧ a ≠ b ∧ H a = some (.lst xs) ∧ 0 < xs.length ∧ xs.length ≤ 100000 ∧
  ∀ (i : Nat) (v : V) (H' : Hp), xs[i]? = some v → Bag H' b → But b H H' → Q v H'
/-- an expression's value by a relation, kept apart from what follows -/
theorem asg_of {te : TE} {i : Nat} {U : TS} {D : Ends} {σ : St} {H : Hp} {R : V → Hp → Prop} (k : ∀ Q : VK, (∀ v H', R v H' → Q v H') → te σ H Q) (h : ∀ v H', R v H' → U D (σ.set i (some v)) H') :
    tSeq (tAsg te (gName i)) U D σ H := k _ h
theorem asg_ret {te : TE} {tr : TA} {D : Ends} {σ : St} {H : Hp} {R : V → Hp → Prop} (k : ∀ Q : VK, (∀ v H', R v H' → Q v H') → te σ H Q) (h : ∀ v H', R v H' → tr σ H' fun xs H2 => (v :: xs).length ≤ sizeLine ∧ ∀ p, H2 p = none → D.rt (.ref p) (upd H2 p (.lst (v :: xs)))) :
    tRet (tLst (tCons te tr)) D σ H := k _ h
section
variable {P : Program} {w : World} {K : PySem.W.Frag} {mg : Str → Option Value} {base : Heap}
abbrev s_l_bag : Stmt := top 23
abbrev N_l_bag : List Str := ["_law_script", "_law_at", "_law_cell", "_law_mix", "_law_k", "_law_each"]
theorem sc_l_bag : FnScope N_l_bag ["_law_script", "_law_at"] (defScope s_l_bag) := ⟨rfl, rfl, rfl, by decide +kernel, rfl, by decide +kernel, by decide +kernel⟩
theorem int_at {ns : List Int} {i : Nat} {x : V} (h : (ns.map V.int)[i]? = some x) : ∃ z, x = .int z ∧ ns[i]? = some z := by
  rw [List.getElem?_map] at h
  cases e : ns[i]? with
  | none => rw [e] at h; cases h
  | some z => rw [e] at h; exact ⟨z, (Option.some.inj h).symm, rfl⟩
theorem cut_ints (ns : List Int) (hi : Option Int) : ∃ ms : List Int, cutV (ns.map V.int) none hi = ms.map V.int ∧ ms.length ≤ ns.length := by
  refine ⟨(ns.drop (HT.sIx (ns.map V.int).length 0 none)).take (HT.sIx (ns.map V.int).length (ns.map V.int).length hi - HT.sIx (ns.map V.int).length 0 none), ?_, ?_⟩
  · unfold cutV
    rw [List.map_take, List.map_drop]
  · rw [List.length_take, List.length_drop]
    omega
theorem ok_l_bag {f : Addr} {fd : FuncData} (F : Fun K "_law_bag" "_law_bag" s_l_bag f fd) (T : Bt mg) : FnOk P w K mg base CX0 2 f fd ["_law_script", "_law_at"] (sp_l_bag K) := by
  refine F.ok sc_l_bag (fun vs H Q E h => ?_) (fun cdv A outer s H vs Q E hr h => ?_)
  · obtain ⟨a, ns, k, rfl, _⟩ := h
    rfl
  · obtain ⟨a, ns, k, rfl, hS, hl, hk, hk', q⟩ := h
    refine ⟨_, (pss_cons (ps_set (i := 2) sc_l_bag.nd rfl (Or.inl rfl) (pe_ifExp (pt_cmpR op_lt (pv 1) (pe_callB call_len_seq (by rfl) T.len (by decide +kernel) (pa_cons (pv 0) pa_nil)) (nomark _)) (pe_callB call_abs (by rfl) T.abs (by decide +kernel) (pa_cons (pe_callTy call_int1 (by rfl) T.int (by decide +kernel) (pa_cons (pe_ix ix_list (pv 0) (pv 1) (fun _ _ => rfl)) pa_nil)) pa_nil)) pe_int))
        (pss_cons (ps_set (i := 3) sc_l_bag.nd rfl (Or.inl rfl) (pe_op op_add pe_int (pe_op op_mul pe_int (pv 1))))
        (pss_cons (ps_for PassesOwn.never rfl (pi_enum (by rfl) T.enumerate (pa_cons (pe_slice sl_list (pv 0) po_none (po_some pe_int)) pa_nil)) (pg_tup rfl (pgs_cons (pg_name (i := 4) sc_l_bag.nd rfl (Or.inl rfl)) (pgs_cons (pg_name (i := 5) sc_l_bag.nd rfl (Or.inl rfl)) pgs_nil))) (pss_one (ps_set (i := 3) sc_l_bag.nd rfl (Or.inl rfl) (pe_op op_mod (pe_callTy call_int1 (by rfl) T.int (by decide +kernel) (pa_cons (pe_op op_add (pe_op op_add (pe_op op_mul (pv 3) pe_int) (pe_op op_mod (pe_callTy call_int1 (by rfl) T.int (by decide +kernel) (pa_cons (pv 5) pa_nil)) pe_int)) (pe_op op_mul pe_int (pv 4))) pa_nil)) pe_int))))
        (pss_one (ps_ret (pe_lst (pa_cons (pe_ifExp (pt_cmpR op_ge (pv 2) (pe_op op_pow pe_int pe_int) (nomark _)) (pv 2) pe_int) (pa_cons (pv 3) (pa_cons pe_int pa_nil))))))))), ?_⟩
    refine asg_of (R := fun v H' => ∃ c : Int, v = .int c ∧ 0 ≤ c ∧ H' = H) (fun Q' q' => ?_) fun v H' ⟨c, e, hc, eH⟩ => ?_
    · refine ⟨_, rfl, _, rfl, _, _, rfl, .inl hS, _, _, rfl, rfl, _, rfl, ?_⟩
      refine ite2 (fun z => ?_) (fun z => ?_)
      · have z' : k < ((ns.map V.int).length : Int) := of_decide_eq_true z
        obtain ⟨j, rfl⟩ := Int.eq_ofNat_of_zero_le hk
        rw [List.length_map] at z'
        have hj : j < ns.length := by omega
        refine ⟨_, rfl, _, rfl, _, _, _, _, rfl, rfl, hS, atI_nat (by rw [List.getElem?_map, List.getElem?_eq_getElem hj]; rfl), .inl ⟨_, rfl, _, rfl, ?_⟩⟩
        refine q' _ _ ⟨_, rfl, ?_, rfl⟩
        split <;> omega
      · exact q' _ _ ⟨0, rfl, Int.le_refl _, rfl⟩
    · subst e eH
      refine ⟨_, rfl, _, _, rfl, rfl, .inl ⟨by decide, by decide⟩, _, _, rfl, rfl, ?_⟩
      refine ⟨_, rfl, _, rfl, _, _, rfl, hS, fun p hp => ?_⟩
      obtain ⟨ms, em, hm⟩ := cut_ints ns (some 63)
      have hp2 : (upd H' p (.lst (cutV (ns.map V.int) none (some 63)))) p = some (.lst (ms.map V.int)) := by rw [upd_same, em]
      refine ⟨p, _, rfl, SqL.of hp2, for_it (walk_enum (K := K) (a := p) (xs := ms.map V.int)) (fun i σ H2 => ∃ (mix : Int) (u v : Option V), σ = [some (.ref a), some (.int k), some (.int c), some (.int mix), u, v] ∧ 0 ≤ mix ∧ mix < 2 ^ 40 ∧ Same H' H2 ∧ H2 p = some (.lst (ms.map V.int))) ?_ (fun i σ H2 _ ⟨_, _, _, _, _, _, _, h⟩ => SqL.of h) ?_ ?_⟩
      · refine ⟨70003 + 6997 * k, none, none, rfl, by omega, by omega, same_new hp, hp2⟩
      · rintro i x σ H2 H3 hi ⟨mix, u, v, rfl, h0, h1, s2, h2⟩ ⟨t, x1, x2, rfl, ht, rfl, e1, e2⟩
        cases e1
        obtain ⟨z, rfl, _⟩ := int_at e2
        have hi' : i < 63 := by rw [List.length_map] at hi; omega
        refine ⟨t, _, rfl, SqT.of upd_same, rfl, _, _, rfl, _, _, rfl, rfl, ?_⟩
        refine ⟨_, rfl, _, _, rfl, rfl, .inr ⟨by decide, by decide⟩, ?_⟩
        refine ⟨_, rfl, .inl ⟨_, rfl, _, _, rfl, rfl, (by show (0 : Int) < 2147483543; decide), ?_⟩⟩
        refine ⟨_, _, rfl, rfl, _, rfl, _, _, rfl, rfl, .inl ⟨by decide, by decide⟩, ?_⟩
        refine ⟨_, _, rfl, rfl, .inl ⟨_, rfl, _, _, rfl, rfl, (by show (0 : Int) < 2147483563; decide), ?_⟩⟩
        refine ⟨_, _, _, rfl, Int.emod_nonneg _ (by decide), Int.lt_trans (Int.emod_lt_of_pos _ (by decide)) (by decide), s2.trans (same_new ht), ?_⟩
        rw [upd_ne (ne_of_none h2 ht)]
        exact h2
      · rintro σ H2 ⟨mix, u, v, rfl, h0, h1, s2, h2⟩
        dsimp only
        refine asg_ret (R := fun v H' => ∃ c : Int, v = .int c ∧ 0 ≤ c ∧ H' = H2) (fun Q' q' => ?_) fun v H' ⟨c, e, hc, eH⟩ => ?_
        · refine ⟨_, rfl, _, _, rfl, rfl, ⟨by decide, by decide, by decide⟩, _, _, rfl, rfl, _, rfl, ?_⟩
          refine ite2 (fun z => ?_) (fun z => ?_)
          · exact ⟨_, rfl, q' _ _ ⟨_, rfl, hc, rfl⟩⟩
          · exact q' _ _ ⟨0, rfl, Int.le_refl _, rfl⟩
        · subst e eH
          refine ⟨_, rfl, (by show 3 ≤ sizeLine; decide), fun b hb => q b _ (s2.free hb) (s2.trans (same_new hb)) ⟨c, mix, 0, upd_same, hc, h0, h1, Int.le_refl _⟩⟩
end
end My
set_option Elab.async false
set_option maxRecDepth 100000
set_option maxHeartbeats 4000000
namespace My
open PySem L2
theorem Bag.same {H H' : Hp} {b : Addr} (h : Bag H b) (s : Same H H') : Bag H' b := by
  obtain ⟨c, m, n, e, r⟩ := h
  exact ⟨c, m, n, s _ _ e, r⟩
theorem Bag.ne {H : Hp} {b l : Addr} (h : Bag H b) (s : H l = none) : l ≠ b := fun e => by
  obtain ⟨c, m, n, z, r⟩ := h
  rw [e, z] at s; cases s
theorem at_exists {xs : List V} {r : Int} (h0 : 0 ≤ r) (h1 : r < (xs.length : Int)) : ∃ (i : Nat) (v : V), xs[i]? = some v ∧ atI xs r = some v := by
  obtain ⟨j, rfl⟩ := Int.eq_ofNat_of_zero_le h0
  have hj : j < xs.length := by omega
  exact ⟨j, xs[j], by simp [hj], atI_nat (by simp [hj])⟩
section
variable {P : Program} {w : World} {K : PySem.W.Frag} {mg : Str → Option Value} {base : Heap}
abbrev s_l_of : Stmt := top 25
abbrev N_l_of : List Str := ["_law_bag_here", "_law_some"]
theorem sc_l_of : FnScope N_l_of ["_law_bag_here", "_law_some"] (defScope s_l_of) := ⟨rfl, rfl, rfl, by decide +kernel, rfl, by decide +kernel, by decide +kernel⟩
theorem ok_l_of {f fT : Addr} {fd fdT : FuncData} (F : Fun K "_law_of" "_law_of" s_l_of f fd) (T : Bt mg) (D_l_take : Df K mg "_law_take" ["_law_bag_here", "_law_many"] fT fdT)
    (G_l_take : FnOk P w K mg base CX0 2 fT fdT ["_law_bag_here", "_law_many"] sp_l_take) : FnOk P w K mg base CX0 3 f fd ["_law_bag_here", "_law_some"] sp_l_of := by
  refine F.ok sc_l_of (fun vs H Q E h => ?_) (fun cdv A outer s H vs Q E hr h => ?_)
  · obtain ⟨b, a, xs, rfl, _⟩ := h
    rfl
  · obtain ⟨b, a, xs, rfl, hB, nab, ha, hl, hl2, q⟩ := h
    refine ⟨_, (pss_one (ps_ret (pe_ix ix_list (pv 1) (pe_call G_l_take (hr.mono (by decide)) (by rfl) D_l_take.g D_l_take.kp D_l_take.b .nil pass0 (pa_cons (pv 0) (pa_cons (pe_callB call_len_seq (by rfl) T.len (by decide +kernel) (pa_cons (pv 1) pa_nil)) pa_nil))) (fun _ _ => rfl)))), ?_⟩
    refine ⟨_, rfl, _, rfl, _, rfl, _, _, rfl, .inl (SqL.of ha), b, _, rfl, hB, by omega, ?_, fun r H' h0 h1 hB' hk => ?_⟩
    · exact Int.lt_of_le_of_lt (b := 100000) (by omega) (by decide +kernel)
    · obtain ⟨i, v, e1, e2⟩ := at_exists h0 h1
      exact ⟨a, xs, r, v, rfl, rfl, SqL.of (hk a _ nab ha), e2, q i v H' e1 hB' hk⟩

end
end My
set_option Elab.async false
set_option maxRecDepth 100000
set_option maxHeartbeats 4000000
namespace My
open PySem L2
/-! ### kinds of values -/
def whole (lo hi : Int) : V → Bool
  | .int i => decide (lo ≤ i) && decide (i ≤ hi)
  | _ => false
def isB : V → Bool
  | .bl _ => true
  | _ => false
/-- an int, a bool, or something of a built-in type that is neither -/
def Th (K : PySem.W.Frag) (H : Hp) (x : V) : Prop := (∃ i, x = .int i) ∨ (∃ k, x = .bl k) ∨ ((∀ i, x ≠ .int i) ∧ (∀ k, x ≠ .bl k) ∧ ∃ t, TyX K H x (.type t) ∧ kitB t "int" = some false ∧ kitB t "bool" = some false)
theorem Th.not {K : PySem.W.Frag} {H : Hp} {x : V} (h : (∀ i, x ≠ .int i) ∧ (∀ k, x ≠ .bl k)) (lo hi : Int) : whole lo hi x = false ∧ isB x = false := by
  obtain ⟨h1, h2⟩ := h
  cases x with
  | int i => exact (h1 i rfl).elim
  | bl k => exact (h2 k rfl).elim
  | _ => exact ⟨rfl, rfl⟩
theorem whole_int {lo hi : Int} {x : V} (h : whole lo hi x = true) : ∃ i, x = .int i ∧ lo ≤ i ∧ i ≤ hi := by
  cases x with
  | int i =>
    have h' : (decide (lo ≤ i) && decide (i ≤ hi)) = true := h
    rw [Bool.and_eq_true, decide_eq_true_iff, decide_eq_true_iff] at h'
    exact ⟨i, rfl, h'.1, h'.2⟩
  | _ => cases h
theorem isB_bl {x : V} (h : isB x = true) : ∃ b, x = .bl b := by
  cases x with
  | bl b => exact ⟨b, rfl⟩
  | _ => cases h
structure BtY (mg : Str → Option Value) : Prop where
  isinstance : mg "isinstance" = none
  int : mg "int" = none
  bool : mg "bool" = none
  hs : ∃ t, mg "HIGHEST_DAY_SET" = some (.int 65535 t)
  hd : ∃ t, mg "HIGHEST_DAY" = some (.int 15 t)
def sp_whole (K : PySem.W.Frag) : Sp := fun vs H Q _ => ∃ (x : V) (lo hi : Int), vs = [x, .int lo, .int hi] ∧ Th K H x ∧ Q (.bl (whole lo hi x)) H
def sp_is_day_set (K : PySem.W.Frag) : Sp := fun vs H Q _ => ∃ x : V, vs = [x] ∧ Th K H x ∧ Q (.bl (whole 0 65535 x)) H
section
variable {P : Program} {w : World} {K : PySem.W.Frag} {mg : Str → Option Value} {base : Heap}
/-- isinstance(x, int), isinstance(x, bool) -/
theorem isi_int {H : Hp} {Q : VK} {x : V} (h : Th K H x) (q : Q (.bl (match x with | .int _ => true | .bl _ => true | _ => false)) H) : rIsi K [x, .ty "int"] H Q := by
  rcases h with ⟨i, rfl⟩ | ⟨k, rfl⟩ | ⟨h1, h2, t, ty, ki, kb⟩
  · exact ⟨_, _, _, _, true, rfl, .ty "int", .base (.int i), kit_ty (by decide +kernel), q⟩
  · exact ⟨_, _, _, _, true, rfl, .ty "int", .base (.bl k), kit_ty (by decide +kernel), q⟩
  · refine ⟨_, _, _, _, false, rfl, .ty "int", ty, kit_ty ki, ?_⟩
    cases x with
    | int i => exact (h1 i rfl).elim
    | bl k => exact (h2 k rfl).elim
    | _ => exact q
theorem isi_bool {H : Hp} {Q : VK} {x : V} (h : Th K H x) (q : Q (.bl (isB x)) H) : rIsi K [x, .ty "bool"] H Q := by
  rcases h with ⟨i, rfl⟩ | ⟨k, rfl⟩ | ⟨h1, h2, t, ty, ki, kb⟩
  · exact ⟨_, _, _, _, false, rfl, .ty "bool", .base (.int i), kit_ty (by decide +kernel), q⟩
  · exact ⟨_, _, _, _, true, rfl, .ty "bool", .base (.bl k), kit_ty (by decide +kernel), q⟩
  · refine ⟨_, _, _, _, false, rfl, .ty "bool", ty, kit_ty kb, ?_⟩
    cases x with
    | int i => exact (h1 i rfl).elim
    | bl k => exact (h2 k rfl).elim
    | _ => exact q
abbrev s_is_number : Stmt := top 9
abbrev N_is_number : List Str := ["thing"]
theorem sc_is_number : FnScope N_is_number ["thing"] (defScope s_is_number) := ⟨rfl, rfl, rfl, by decide +kernel, rfl, by decide +kernel, by decide +kernel⟩
def isnum : V → Bool
  | .int _ => true
  | _ => false
def sp_num (K : PySem.W.Frag) : Sp := fun vs H Q _ => ∃ x : V, vs = [x] ∧ Th K H x ∧ Q (.bl (isnum x)) H
theorem ok_is_number {f : Addr} {fd : FuncData} (F : Fun K "is_number" "is_number" s_is_number f fd) (T : BtY mg) : FnOk P w K mg base CX0 1 f fd ["thing"] (sp_num K) := by
  refine F.ok sc_is_number (fun vs H Q E h => ?_) (fun cdv A outer s H vs Q E hr h => ?_)
  · obtain ⟨x, rfl, _⟩ := h
    rfl
  · obtain ⟨x, rfl, hx, q⟩ := h
    refine ⟨_, (pss_one (ps_ret (pe_and (pe_callB call_isi (by rfl) T.isinstance (by decide +kernel) (pa_cons (pv 0) (pa_cons (pe_bltn (v := .ty "int") (by rfl) T.int (by decide +kernel) rfl) pa_nil))) (pe_one (pe_not (pe_callB call_isi (by rfl) T.isinstance (by decide +kernel) (pa_cons (pv 0) (pa_cons (pe_bltn (v := .ty "bool") (by rfl) T.bool (by decide +kernel) rfl) pa_nil)))))))), ?_⟩
    refine ⟨_, rfl, ?_⟩
    dsimp only [tCons, tC, tNil]
    refine isi_int hx ?_
    have hx2 := hx
    rcases hx with ⟨i, rfl⟩ | ⟨k, rfl⟩ | ⟨h1, h2, _⟩
    · refine ⟨_, rfl, iteT ⟨_, rfl, ?_⟩⟩
      dsimp only [tCons, tC, tNil]
      exact isi_bool hx2 ⟨_, rfl, q⟩
    · refine ⟨_, rfl, iteT ⟨_, rfl, ?_⟩⟩
      dsimp only [tCons, tC, tNil]
      exact isi_bool hx2 ⟨_, rfl, q⟩
    · cases x with
      | int i => exact (h1 i rfl).elim
      | bl k => exact (h2 k rfl).elim
      | _ => exact ⟨_, rfl, iteF q⟩
abbrev s_is_whole : Stmt := top 10
abbrev N_is_whole : List Str := ["thing", "low", "high"]
theorem sc_is_whole : FnScope N_is_whole ["thing", "low", "high"] (defScope s_is_whole) := ⟨rfl, rfl, rfl, by decide +kernel, rfl, by decide +kernel, by decide +kernel⟩
theorem ok_is_whole {f fN : Addr} {fd fdN : FuncData} (F : Fun K "is_whole" "is_whole" s_is_whole f fd) (D_is_number : Df K mg "is_number" ["thing"] fN fdN) (G_is_number : FnOk P w K mg base CX0 1 fN fdN ["thing"] (sp_num K)) : FnOk P w K mg base CX0 2 f fd ["thing", "low", "high"] (sp_whole K) := by
  refine F.ok sc_is_whole (fun vs H Q E h => ?_) (fun cdv A outer s H vs Q E hr h => ?_)
  · obtain ⟨x, lo, hi, rfl, _⟩ := h
    rfl
  · obtain ⟨x, lo, hi, rfl, hx, q⟩ := h
    refine ⟨_, (pss_one (ps_ret (pe_and (pe_call G_is_number (hr.mono (by decide)) (by rfl) D_is_number.g D_is_number.kp D_is_number.b .nil pass0 (pa_cons (pv 0) pa_nil)) (pe_one (pe_chain op_le op_le (pv 1) (pv 0) (pv 2)))))), ?_⟩
    refine ⟨_, rfl, x, rfl, hx, ?_⟩
    rcases hx with ⟨i, rfl⟩ | ⟨k, rfl⟩ | ⟨h1, h2, _⟩
    · refine ⟨_, rfl, iteT ⟨_, rfl, _, rfl, _, _, rfl, rfl, _, rfl, ?_⟩⟩
      refine ite2 (fun z => ?_) (fun z => ?_)
      · refine ⟨_, rfl, _, _, rfl, rfl, ?_⟩
        have e : whole lo hi (.int i) = (decide (lo ≤ i) && decide (i ≤ hi)) := rfl
        rw [e, z, Bool.true_and] at q
        exact q
      · have e : whole lo hi (.int i) = (decide (lo ≤ i) && decide (i ≤ hi)) := rfl
        rw [e, Bool.eq_false_iff.mpr z, Bool.false_and] at q
        exact q
    · exact ⟨_, rfl, iteF q⟩
    · rw [(Th.not (K := K) (H := H) ⟨h1, h2⟩ lo hi).1] at q
      cases x with
      | int i => exact (h1 i rfl).elim
      | bl k => exact (h2 k rfl).elim
      | _ => exact ⟨_, rfl, iteF q⟩
abbrev s_is_day_set : Stmt := top 14
abbrev N_is_day_set : List Str := ["thing"]
theorem sc_is_day_set : FnScope N_is_day_set ["thing"] (defScope s_is_day_set) := ⟨rfl, rfl, rfl, by decide +kernel, rfl, by decide +kernel, by decide +kernel⟩
theorem ok_is_day_set {f fW : Addr} {fd fdW : FuncData} (F : Fun K "is_day_set" "is_day_set" s_is_day_set f fd) (T : BtY mg) (D_is_whole : Df K mg "is_whole" ["thing", "low", "high"] fW fdW) (G_is_whole : FnOk P w K mg base CX0 2 fW fdW ["thing", "low", "high"] (sp_whole K)) :
    FnOk P w K mg base CX0 3 f fd ["thing"] (sp_is_day_set K) := by
  obtain ⟨t, hT⟩ := T.hs
  refine F.ok sc_is_day_set (fun vs H Q E h => ?_) (fun cdv A outer s H vs Q E hr h => ?_)
  · obtain ⟨x, rfl, _⟩ := h
    rfl
  · obtain ⟨x, rfl, hx, q⟩ := h
    refine ⟨_, (pss_one (ps_ret (pe_call G_is_whole (hr.mono (by decide)) (by rfl) D_is_whole.g D_is_whole.kp D_is_whole.b .nil pass0 (pa_cons (pv 0) (pa_cons pe_int (pa_cons (pe_glob (v := .int 65535) rfl hT ⟨_, rfl⟩) pa_nil)))))), ?_⟩
    exact ⟨_, rfl, x, 0, 65535, rfl, hx, q⟩
end
end My
set_option Elab.async false
set_option maxRecDepth 100000
set_option maxHeartbeats 4000000
namespace My
open PySem L2
/-! ### sayings -/
def brk (w t : Nat) : Nat := w - (w &&& t)
theorem brk_cast (w t : Nat) : ((brk w t : Nat) : Int) = (w : Int) - ((w &&& t : Nat) : Int) := by
  have : w &&& t ≤ w := Nat.and_le_left
  unfold brk
  omega
theorem and_cast (w t : Nat) : Builtin.bitAnd (w : Int) (t : Int) = ((w &&& t : Nat) : Int) := by
  rw [PyProof.Rows.bitAnd_pp (Int.natCast_nonneg _) (Int.natCast_nonneg _), Int.toNat_natCast, Int.toNat_natCast]
theorem brk_and (w t : Nat) : Builtin.bitAnd (w : Int) (Builtin.bitNot (t : Int)) = ((brk w t : Nat) : Int) := by
  rw [PyProof.Rows.bitAnd_not, and_cast, brk_cast]
def sayFs (w t : Nat) (u : Bool) : List (Str × V) :=
  [("where", .int w), ("then", .int t), ("usual", .bl u), ("confirm", .int (w &&& t : Nat)), ("broken", .int (brk w t : Nat)),
   ("low", .int (if u then ((w &&& t : Nat) : Int) else ((brk w t : Nat) : Int))), ("high", .int (if u then ((brk w t : Nat) : Int) else ((w &&& t : Nat) : Int))), ("step", .int (if u then 1 else 0))]
def Say (C : Addr) (H : Hp) (a : Addr) (w t : Nat) (u : Bool) : Prop := ∃ dx, H a = some (.ins C dx (sayFs w t u)) ∧ 1 ≤ w ∧ w < 65536 ∧ t < 65536
theorem Say.same {C a : Addr} {H H' : Hp} {w t : Nat} {u : Bool} (h : Say C H a w t u) (s : Same H H') : Say C H' a w t u := by
  obtain ⟨dx, e, r⟩ := h
  exact ⟨dx, s _ _ e, r⟩
structure SayC (K : PySem.W.Frag) (C : Addr) : Prop where
  cl : Cls K C
  nW : NoAttr K C "where"
  nT : NoAttr K C "then"
  nU : NoAttr K C "usual"
  nC : NoAttr K C "confirm"
  nB : NoAttr K C "broken"
  nL : NoAttr K C "low"
  nH : NoAttr K C "high"
  nS : NoAttr K C "step"
/-- the first wrong argument -/
def sayWord (x y z : V) : Option Str := if whole 1 65535 x = false then some "where" else if whole 0 65535 y = false then some "then" else if isB z = false then some "usual" else none
/-- an error with its word is raised -/
def Raised (CB : Addr) (f : Str) (y : V) (E : XK) (H : Hp) : Prop := ∀ d H', H d = none → Same H H' → H' d = some (.xd [(f, y)]) → E (.ref CB) (some d) H'
def sp_init (K : PySem.W.Frag) (CB : Addr) : Sp := fun vs H Q E => ∃ (a C dx : Addr) (x y z : V), vs = [.ref a, x, y, z] ∧ H a = some (.ins C dx []) ∧ SayC K C ∧ Th K H x ∧ Th K H y ∧ Th K H z ∧
  (∀ s, sayWord x y z = some s → Raised CB "what" (.str s) E H) ∧
  (∀ (w t : Nat) (u : Bool), x = .int w → y = .int t → z = .bl u → 1 ≤ w → w < 65536 → t < 65536 → Q .non (upd H a (.ins C dx (sayFs w t u))))
section
variable {P : Program} {w : World} {K : PySem.W.Frag} {mg : Str → Option Value} {base : Heap}
abbrev s_NoDay_init : Stmt := inClass (top 5) 0
theorem sc_NoDay_init : FnScope ["self", "day"] ["self", "day"] (defScope s_NoDay_init) := ⟨rfl, rfl, rfl, by decide +kernel, rfl, by decide +kernel, by decide +kernel⟩
theorem ok_NoDay_init {f C : Addr} {fd : FuncData} (F : Fun K "__init__" "NoDay.__init__" s_NoDay_init f fd) (T : OexC K C) (no : PySem.W.findIn K (.ref C) "day" = some none) : FnOk P w K mg base CX0 2 f fd ["self", "day"] (sp_efld C "day") := by
  refine F.ok sc_NoDay_init (fun vs H Q E h => ?_) (fun cdv A outer s H vs Q E hr h => ?_)
  · obtain ⟨a, y, rfl, _⟩ := h
    rfl
  · obtain ⟨a, y, rfl, ha, q⟩ := h
    refine ⟨_, pss_one (ps_ost (pv 0) (pv 1)), ?_⟩
    exact ⟨_, rfl, _, rfl, a, C, rfl, T, no, .inl ⟨ha, q⟩⟩
abbrev s_BadSaying_init : Stmt := inClass (top 6) 0
theorem sc_BadSaying_init : FnScope ["self", "what"] ["self", "what"] (defScope s_BadSaying_init) := ⟨rfl, rfl, rfl, by decide +kernel, rfl, by decide +kernel, by decide +kernel⟩
theorem ok_BadSaying_init {f C : Addr} {fd : FuncData} (F : Fun K "__init__" "BadSaying.__init__" s_BadSaying_init f fd) (T : OexC K C) (no : PySem.W.findIn K (.ref C) "what" = some none) : FnOk P w K mg base CX0 2 f fd ["self", "what"] (sp_efld C "what") := by
  refine F.ok sc_BadSaying_init (fun vs H Q E h => ?_) (fun cdv A outer s H vs Q E hr h => ?_)
  · obtain ⟨a, y, rfl, _⟩ := h
    rfl
  · obtain ⟨a, y, rfl, ha, q⟩ := h
    refine ⟨_, pss_one (ps_ost (pv 0) (pv 1)), ?_⟩
    exact ⟨_, rfl, _, rfl, a, C, rfl, T, no, .inl ⟨ha, q⟩⟩
abbrev s_Saying_init : Stmt := inClass (top 16) 0
abbrev N_Saying_init : List Str := ["self", "where", "then", "usual"]
theorem sc_Saying_init : FnScope N_Saying_init ["self", "where", "then", "usual"] (defScope s_Saying_init) := ⟨rfl, rfl, rfl, by decide +kernel, rfl, by decide +kernel, by decide +kernel⟩
theorem ok_Saying_init {f fD CB fB : Addr} {fd fdD fdB : FuncData} (F : FunD K "__init__" "Saying.__init__" (defArgs s_Saying_init) (defBody s_Saying_init) (defScope s_Saying_init) [.bl true] [] f fd) (T : BtY mg)
    (D_is_day_set : Df K mg "is_day_set" ["thing"] fD fdD) (G_is_day_set : FnOk P w K mg base CX0 3 fD fdD ["thing"] (sp_is_day_set K)) (X : ErrF K mg "BadSaying" "what" CB fB fdB) (FB : Fun K "__init__" "BadSaying.__init__" s_BadSaying_init fB fdB) :
    FnOk P w K mg base (L2.CX P w) 4 f fd ["self", "where", "then", "usual"] (sp_init K CB) := by
  have GB : FnOk P w K mg base CX0 2 fB fdB ["self", "what"] (sp_efld CB "what") := ok_BadSaying_init FB X.oex X.no
  refine F.ok sc_Saying_init (fun vs H Q E h => ?_) (fun cdv A outer s H vs Q E hr h => ?_)
  · obtain ⟨a, C, dx, x, y, z, rfl, _⟩ := h
    rfl
  · obtain ⟨a, C, dx, x, y, z, rfl, ha, S, hx, hy, hz, qE, q⟩ := h
    refine ⟨_, (pss_cons (ps_if (PW.pt (pw_or (pt_not (pt_val (pe_call G_is_day_set (hr.mono (by decide)) (by rfl) D_is_day_set.g D_is_day_set.kp D_is_day_set.b .nil pass0 (pa_cons (pv 1) pa_nil)))) (pw_or1 (pt_cmpR op_eq (pv 1) pe_int (nomark _)))))
          (pss_one (ps_raise rfl (takes_of rfl rfl rfl rfl) (pmk_fld X.oex X.iC X.tI GB (hr.mono (by decide)) X.b (by rfl) X.g pe_str))) pss_nil)
        (pss_cons (ps_if (pt_not (pt_val (pe_call G_is_day_set (hr.mono (by decide)) (by rfl) D_is_day_set.g D_is_day_set.kp D_is_day_set.b .nil pass0 (pa_cons (pv 2) pa_nil))))
          (pss_one (ps_raise rfl (takes_of rfl rfl rfl rfl) (pmk_fld X.oex X.iC X.tI GB (hr.mono (by decide)) X.b (by rfl) X.g pe_str))) pss_nil)
        (pss_cons (ps_if (pt_not (pt_val (pe_callB call_isi (by rfl) T.isinstance (by decide +kernel) (pa_cons (pv 3) (pa_cons (pe_bltn (v := .ty "bool") (by rfl) T.bool (by decide +kernel) rfl) pa_nil)))))
          (pss_one (ps_raise rfl (takes_of rfl rfl rfl rfl) (pmk_fld X.oex X.iC X.tI GB (hr.mono (by decide)) X.b (by rfl) X.g pe_str))) pss_nil)
        (pss_cons (ps_fld (pv 0) (pv 1) rfl)
        (pss_cons (ps_fld (pv 0) (pv 2) rfl)
        (pss_cons (ps_fld (pv 0) (pv 3) rfl)
        (pss_cons (ps_fld (pv 0) (pe_op op_and (pv 1) (pv 2)) rfl)
        (pss_cons (ps_fld (pv 0) (pe_op op_and (pv 1) (pe_un un_inv (pv 2))) rfl)
        (pss_cons (ps_fld (pv 0) (pe_ifExp (pt_val (pv 3)) (pe_fld (pv 0) rfl) (pe_fld (pv 0) rfl)) rfl)
        (pss_cons (ps_fld (pv 0) (pe_ifExp (pt_val (pv 3)) (pe_fld (pv 0) rfl) (pe_fld (pv 0) rfl)) rfl)
        (pss_one (ps_fld (pv 0) (pe_ifExp (pt_val (pv 3)) pe_int pe_int) rfl)))))))))))), ?_⟩
    refine ⟨_, rfl, x, rfl, hx, _, rfl, ?_⟩
    cases hw : whole 0 65535 x with
    | false =>
      refine iteT ?_
      have e1 : whole 1 65535 x = false := by
        cases e : whole 1 65535 x with
        | false => rfl
        | true =>
          obtain ⟨i, rfl, h1, h2⟩ := whole_int e
          have h3 : whole 0 65535 (.int i) = (decide (0 ≤ i) && decide (i ≤ 65535)) := rfl
          rw [h3, Bool.and_eq_false_iff] at hw
          simp only [decide_eq_false_iff_not] at hw
          omega
      refine fun d H' h1 h2 h3 => qE _ ?_ d H' h1 h2 h3
      unfold sayWord
      rw [if_pos e1]
    | true =>
      obtain ⟨i, rfl, i0, i1⟩ := whole_int hw
      refine iteF ⟨_, rfl, rfl, _, rfl, ite2 (fun c => ?_) (fun c => ?_)⟩
      · have z' : V.int i = V.int 0 := of_decide_eq_true c
        injection z' with z'
        subst z'
        refine fun d H' h1 h2 h3 => qE _ ?_ d H' h1 h2 h3
        unfold sayWord
        rw [if_pos (show whole 1 65535 (.int 0) = false from by decide)]
      have ni : i ≠ 0 := fun e => c (by rw [e]; decide)
      obtain ⟨n, rfl⟩ := Int.eq_ofNat_of_zero_le i0
      have e1 : ¬ whole 1 65535 (.int (n : Int)) = false := by
        have h3 : whole 1 65535 (.int (n : Int)) = (decide (1 ≤ (n : Int)) && decide ((n : Int) ≤ 65535)) := rfl
        rw [h3]
        simp
        omega
      refine ⟨_, rfl, y, rfl, hy, _, rfl, ?_⟩
      cases hv : whole 0 65535 y with
      | false =>
        refine iteT fun d H' h1 h2 h3 => qE _ ?_ d H' h1 h2 h3
        unfold sayWord
        rw [if_neg e1, if_pos hv]
      | true =>
        obtain ⟨j, rfl, j0, j1⟩ := whole_int hv
        obtain ⟨m, rfl⟩ := Int.eq_ofNat_of_zero_le j0
        refine iteF ⟨_, rfl, ?_⟩
        dsimp only [tCons, tC, tNil]
        refine isi_bool hz ⟨_, rfl, ?_⟩
        cases hb : isB z with
        | false =>
          refine iteT fun d H' h1 h2 h3 => qE _ ?_ d H' h1 h2 h3
          unfold sayWord
          rw [if_neg e1, if_neg (by rw [hv]; decide), if_pos hb]
        | true =>
          obtain ⟨u, rfl⟩ := isB_bl hb
          refine iteF ?_
          have q' := q n m u rfl rfl rfl (by omega) (by omega) (by omega)
          refine ⟨_, rfl, _, rfl, a, C, dx, _, rfl, ha, S.cl, S.nW, by decide, ?_⟩
          refine ⟨_, rfl, _, rfl, a, C, dx, _, rfl, upd_same, S.cl, S.nT, by show (1 : Nat) < 1000; decide, ?_⟩
          refine ⟨_, rfl, _, rfl, a, C, dx, _, rfl, upd_same, S.cl, S.nU, by show (2 : Nat) < 1000; decide, ?_⟩
          refine ⟨_, rfl, _, rfl, _, _, rfl, rfl, _, rfl, a, C, dx, _, rfl, upd_same, S.cl, S.nC, by show (3 : Nat) < 1000; decide, ?_⟩
          refine ⟨_, rfl, _, rfl, _, rfl, _, _, rfl, rfl, _, rfl, a, C, dx, _, rfl, upd_same, S.cl, S.nB, by show (4 : Nat) < 1000; decide, ?_⟩
          unfold sayFs at q'
          rw [← and_cast, ← brk_and] at q'
          cases u with
          | true =>
            refine ⟨_, rfl, _, rfl, iteT ⟨_, rfl, a, C, dx, _, _, rfl, upd_same, S.cl, S.nC, rfl, _, rfl, a, C, dx, _, rfl, upd_same, S.cl, S.nL, by show (5 : Nat) < 1000; decide, ?_⟩⟩
            refine ⟨_, rfl, _, rfl, iteT ⟨_, rfl, a, C, dx, _, _, rfl, upd_same, S.cl, S.nB, rfl, _, rfl, a, C, dx, _, rfl, upd_same, S.cl, S.nH, by show (6 : Nat) < 1000; decide, ?_⟩⟩
            refine ⟨_, rfl, _, rfl, iteT ⟨_, rfl, a, C, dx, _, rfl, upd_same, S.cl, S.nS, by show (7 : Nat) < 1000; decide, ?_⟩⟩
            rw [upd_upd, upd_upd, upd_upd, upd_upd, upd_upd, upd_upd, upd_upd]
            exact q'
          | false =>
            refine ⟨_, rfl, _, rfl, iteF ⟨_, rfl, a, C, dx, _, _, rfl, upd_same, S.cl, S.nB, rfl, _, rfl, a, C, dx, _, rfl, upd_same, S.cl, S.nL, by show (5 : Nat) < 1000; decide, ?_⟩⟩
            refine ⟨_, rfl, _, rfl, iteF ⟨_, rfl, a, C, dx, _, _, rfl, upd_same, S.cl, S.nC, rfl, _, rfl, a, C, dx, _, rfl, upd_same, S.cl, S.nH, by show (6 : Nat) < 1000; decide, ?_⟩⟩
            refine ⟨_, rfl, _, rfl, iteF ⟨_, rfl, a, C, dx, _, rfl, upd_same, S.cl, S.nS, by show (7 : Nat) < 1000; decide, ?_⟩⟩
            rw [upd_upd, upd_upd, upd_upd, upd_upd, upd_upd, upd_upd, upd_upd]
            exact q'
end
end My
set_option Elab.async false
set_option maxRecDepth 100000
set_option maxHeartbeats 4000000
namespace My
open PySem L2 ClX
theorem TyOf.same {K : PySem.W.Frag} {H H' : Hp} {x : V} {t : Value} (h : TyOf K H x t) (s : Same H H') : TyOf K H' x t := by
  cases h with
  | non => exact .non
  | bl y => exact .bl y
  | int i => exact .int i
  | str y => exact .str y
  | flt y => exact .flt y
  | lst e => exact .lst (s _ _ e)
  | frz e => exact .frz (s _ _ e)
  | tup e => exact .tup (s _ _ e)
  | dK e => exact .dK (s _ _ e)
  | dT e => exact .dT (s _ _ e)
  | ins e cl ha hn htk hm => exact .ins (s _ _ e) cl ha hn htk hm
theorem TyX.same {K : PySem.W.Frag} {H H' : Hp} {x : V} {t : Value} (h : TyX K H x t) (s : Same H H') : TyX K H' x t := by
  cases h with
  | base b => exact .base (TyOf.same b s)
  | byt b => exact .byt b
  | set e => exact .set (s _ _ e)
  | kList e c => exact .kList e c
  | kTuple e c => exact .kTuple e c
  | kDict e c => exact .kDict e c
  | fTuple e => exact .fTuple (s _ _ e)
  | fDict e => exact .fDict (s _ _ e)
theorem Th.same {K : PySem.W.Frag} {H H' : Hp} {x : V} (h : Th K H x) (s : Same H H') : Th K H' x := by
  rcases h with h | h | ⟨h1, h2, t, ty, r⟩
  · exact .inl h
  · exact .inr (.inl h)
  · exact .inr (.inr ⟨h1, h2, t, TyX.same ty s, r⟩)
theorem Raised.same {CB : Addr} {f : Str} {y : V} {E : XK} {H H' : Hp} (h : Raised CB f y E H) (s : Same H H') : Raised CB f y E H' := fun d H2 e1 e2 e3 => h d H2 (s.free e1) (s.trans e2) e3
theorem same_two {H : Hp} {x dx : Addr} {o u : HO} (h1 : H x = none) (h2 : H dx = none) : Same H (upd (upd H dx o) x u) := fun a v e => by
  rw [upd_ne (ne_of_none e h1), upd_ne (ne_of_none e h2)]
  exact e
def verd (c b d : Nat) : Str := if c.testBit d = true then "confirmed" else if b.testBit d = true then "broken" else "silent"
def sp_verdict (K : PySem.W.Frag) (CN : Addr) : Sp := fun vs H Q E => ∃ (c b : Nat) (x : V), vs = [.int c, .int b, x] ∧ Th K H x ∧ (whole 0 15 x = false → Raised CN "day" x E H) ∧ (∀ d : Nat, x = .int d → d < 16 → Q (.str (verd c b d)) H)
def sp_on (K : PySem.W.Frag) (C CN : Addr) : Sp := fun vs H Q E => ∃ (a : Addr) (w t : Nat) (u : Bool) (x : V), vs = [.ref a, x] ∧ Say C H a w t u ∧ Th K H x ∧ (whole 0 15 x = false → Raised CN "day" x E H) ∧ (∀ d : Nat, x = .int d → d < 16 → Q (.str (verd (w &&& t) (brk w t) d)) H)
/-- a new saying -/
def NewSay (C : Addr) (w t : Nat) (u : Bool) (Q : VK) (H : Hp) : Prop := ∀ (a : Addr) (H' : Hp), H a = none → Same H H' → Say C H' a w t u → Q (.ref a) H'
def sp_contrary (C : Addr) : Sp := fun vs H Q _ => ∃ (a : Addr) (w t : Nat) (u : Bool), vs = [.ref a] ∧ Say C H a w t u ∧ NewSay C w t (!u) Q H
def sp_flipped (C : Addr) : Sp := fun vs H Q _ => ∃ (a : Addr) (w t : Nat) (u : Bool), vs = [.ref a] ∧ Say C H a w t u ∧ NewSay C w (brk w t) u Q H
def partsWord (x y z : V) : Option Str := if whole 0 65535 x = false then some "confirm" else if whole 0 65535 y = false then some "broken" else match x, y with
  | .int i, .int j => if Builtin.bitAnd i j ≠ 0 then some "overlap" else if i + j = 0 then some "where" else if isB z = false then some "usual" else none
  | _, _ => none
def sp_of_days (K : PySem.W.Frag) (C CB : Addr) : Sp := fun vs H Q E => ∃ x y z : V, vs = [.ref C, x, y, z] ∧ Th K H x ∧ Th K H y ∧ Th K H z ∧ (∀ s, partsWord x y z = some s → Raised CB "what" (.str s) E H) ∧
  (∀ (c b : Nat) (u : Bool), x = .int c → y = .int b → z = .bl u → c &&& b = 0 → partsWord x y z = none → NewSay C (c ||| b) c u Q H)
section
variable {P : Program} {w : World} {K : PySem.W.Frag} {mg : Str → Option Value} {base : Heap}
abbrev s_verdict_on : Stmt := top 15
abbrev N_verdict_on : List Str := ["confirm", "broken", "day"]
theorem sc_verdict_on : FnScope N_verdict_on ["confirm", "broken", "day"] (defScope s_verdict_on) := ⟨rfl, rfl, rfl, by decide +kernel, rfl, by decide +kernel, by decide +kernel⟩
theorem ok_verdict_on {f fW CN fN : Addr} {fd fdW fdN : FuncData} (F : Fun K "verdict_on" "verdict_on" s_verdict_on f fd) (T : BtY mg) (D_is_whole : Df K mg "is_whole" ["thing", "low", "high"] fW fdW) (G_is_whole : FnOk P w K mg base CX0 2 fW fdW ["thing", "low", "high"] (sp_whole K))
    (X : ErrF K mg "NoDay" "day" CN fN fdN) (FN : Fun K "__init__" "NoDay.__init__" s_NoDay_init fN fdN) : FnOk P w K mg base (L2.CX P w) 4 f fd ["confirm", "broken", "day"] (sp_verdict K CN) := by
  have GN : FnOk P w K mg base CX0 2 fN fdN ["self", "day"] (sp_efld CN "day") := ok_NoDay_init FN X.oex X.no
  obtain ⟨t, hT⟩ := T.hd
  refine F.okX sc_verdict_on (fun vs H Q E h => ?_) (fun cdv A outer s H vs Q E hr h => ?_)
  · obtain ⟨c, b, x, rfl, _⟩ := h
    rfl
  · obtain ⟨c, b, x, rfl, hx, qE, q⟩ := h
    refine ⟨_, (pss_cons (ps_if (pt_not (pt_val (pe_call G_is_whole (hr.mono (by decide)) (by rfl) D_is_whole.g D_is_whole.kp D_is_whole.b .nil pass0 (pa_cons (pv 2) (pa_cons pe_int (pa_cons (pe_glob (v := .int 15) rfl hT ⟨_, rfl⟩) pa_nil)))))) (pss_one (ps_raise rfl (takes_of rfl rfl rfl rfl) (pmk_fld X.oex X.iC X.tI GN (hr.mono (by decide)) X.b (by rfl) X.g (pv 2)))) pss_nil)
        (pss_cons (ps_if (pt_truth (pe_op op_and (pe_op op_shr (pv 0) (pv 2)) pe_int) (by intro _; rfl)) (pss_one (ps_ret pe_str)) pss_nil)
        (pss_cons (ps_if (pt_truth (pe_op op_and (pe_op op_shr (pv 1) (pv 2)) pe_int) (by intro _; rfl)) (pss_one (ps_ret pe_str)) pss_nil)
        (pss_one (ps_ret pe_str))))), ?_⟩
    refine ⟨_, rfl, x, 0, 15, rfl, hx, _, rfl, ?_⟩
    cases hw : whole 0 15 x with
    | false =>
      refine iteT ⟨_, rfl, fun d H' h1 h2 h3 => qE hw d H' h1 h2 h3⟩
    | true =>
      obtain ⟨i, rfl, i0, i1⟩ := whole_int hw
      obtain ⟨d, rfl⟩ := Int.eq_ofNat_of_zero_le i0
      refine iteF ?_
      have q' := q d rfl (by omega)
      unfold verd at q'
      refine ⟨_, rfl, _, rfl, _, _, rfl, rfl, (by show (0 : Int) ≤ (d : Int); omega), _, _, rfl, rfl, c.testBit d, ?_, ?_⟩
      · rw [← bit_test c d]
        rfl
      refine ite2 (fun z => ?_) (fun z => ?_)
      · rw [if_pos z] at q'
        exact q'
      rw [if_neg z] at q'
      refine ⟨_, rfl, _, rfl, _, _, rfl, rfl, (by show (0 : Int) ≤ (d : Int); omega), _, _, rfl, rfl, b.testBit d, ?_, ?_⟩
      · rw [← bit_test b d]
        rfl
      refine ite2 (fun z => ?_) (fun z => ?_)
      · rw [if_pos z] at q'
        exact q'
      · rw [if_neg z] at q'
        exact q'
abbrev s_Saying_on : Stmt := inClass (top 16) 4
theorem sc_Saying_on : FnScope ["self", "day"] ["self", "day"] (defScope s_Saying_on) := ⟨rfl, rfl, rfl, by decide +kernel, rfl, by decide +kernel, by decide +kernel⟩
theorem ok_Saying_on {C CN f fV : Addr} {fd fdV : FuncData} (F : Fun K "on" "Saying.on" s_Saying_on f fd) (S : SayC K C) (D_verdict_on : Df K mg "verdict_on" ["confirm", "broken", "day"] fV fdV) (G_verdict_on : FnOk P w K mg base (L2.CX P w) 4 fV fdV ["confirm", "broken", "day"] (sp_verdict K CN)) :
    FnOk P w K mg base (L2.CX P w) 5 f fd ["self", "day"] (sp_on K C CN) := by
  refine F.okX sc_Saying_on (fun vs H Q E h => ?_) (fun cdv A outer s H vs Q E hr h => ?_)
  · obtain ⟨a, w, t, u, x, rfl, _⟩ := h
    rfl
  · obtain ⟨a, w, t, u, x, rfl, ⟨dx, ha, _⟩, hx, qE, q⟩ := h
    refine ⟨_, (pss_one (ps_ret (pe_call G_verdict_on (hr.mono (by decide)) (by rfl) D_verdict_on.g D_verdict_on.kp D_verdict_on.b .nil (pass_of (E := E) (takes_of rfl rfl rfl rfl)) (pa_cons (pe_fld (pv 0) rfl) (pa_cons (pe_fld (pv 0) rfl) (pa_cons (pv 1) pa_nil)))))), ?_⟩
    refine ⟨_, rfl, a, C, dx, _, _, rfl, ha, S.cl, S.nC, rfl, ?_⟩
    refine ⟨_, rfl, a, C, dx, _, _, rfl, ha, S.cl, S.nB, rfl, ?_⟩
    exact ⟨_, rfl, _, _, x, rfl, hx, qE, q⟩
end
end My
set_option Elab.async false
set_option maxRecDepth 100000
set_option maxHeartbeats 4000000
namespace My
open PySem L2 ClX
theorem brk_le (w t : Nat) : brk w t ≤ w := by unfold brk; omega
theorem sayWord_ok {w t : Nat} {u : Bool} (w0 : 1 ≤ w) (w1 : w < 65536) (t1 : t < 65536) : sayWord (.int w) (.int t) (.bl u) = none := by
  unfold sayWord
  rw [if_neg (by show ¬ (decide (1 ≤ (w : Int)) && decide ((w : Int) ≤ 65535)) = false; simp; omega), if_neg (by show ¬ (decide (0 ≤ (t : Int)) && decide ((t : Int) ≤ 65535)) = false; simp; omega), if_neg (by show ¬ true = false; decide)]
/-- what __init__ is asked of a good saying -/
theorem init_ok {K : PySem.W.Frag} {C CB x d2 : Addr} {H : Hp} {w t : Nat} {u : Bool} {Q : VK} {E : XK} (S : SayC K C) (hx : H x = none) (hd : H d2 = none) (w0 : 1 ≤ w) (w1 : w < 65536) (t1 : t < 65536) (q : NewSay C w t u Q H) :
    sp_init K CB [.ref x, .int w, .int t, .bl u] (upd (upd H d2 (.own x)) x (.ins C d2 [])) (fun v H2 => v = .non ∧ Q (.ref x) H2) E := by
  refine ⟨x, C, d2, _, _, _, rfl, upd_same, S, .inl ⟨_, rfl⟩, .inl ⟨_, rfl⟩, .inr (.inl ⟨_, rfl⟩), fun s z => ?_, fun w' t' u' e1 e2 e3 _ _ _ => ?_⟩
  · rw [sayWord_ok w0 w1 t1] at z
    cases z
  · have e1' : (w : Int) = w' := by injection e1
    have e2' : (t : Int) = t' := by injection e2
    have e3' : u = u' := by injection e3
    obtain rfl : w = w' := by omega
    obtain rfl : t = t' := by omega
    subst e3'
    refine ⟨rfl, q x _ hx ?_ ⟨d2, upd_same, w0, w1, t1⟩⟩
    rw [upd_upd]
    exact same_two hx hd
theorem or_cast (w t : Nat) : Builtin.bitOr (w : Int) (t : Int) = ((w ||| t : Nat) : Int) := by
  rw [bitOr_nn (Int.natCast_nonneg _) (Int.natCast_nonneg _), Int.toNat_natCast, Int.toNat_natCast]
theorem or_zero {c b : Nat} : c ||| b = 0 ↔ c + b = 0 := by
  constructor
  · intro h
    have h1 : c ≤ c ||| b := Nat.left_le_or
    have h2 : b ≤ c ||| b := Nat.right_le_or
    omega
  · intro h
    have h1 : c = 0 := by omega
    have h2 : b = 0 := by omega
    subst h1 h2
    rfl
section
variable {P : Program} {w : World} {K : PySem.W.Frag} {mg : Str → Option Value} {base : Heap}
abbrev s_Saying_of_days : Stmt := inClass (top 16) 1
abbrev N_Saying_of_days : List Str := ["cls", "confirm", "broken", "usual"]
theorem sc_Saying_of_days : FnScope N_Saying_of_days ["cls", "confirm", "broken", "usual"] (defScope s_Saying_of_days) := ⟨rfl, rfl, rfl, by decide +kernel, rfl, by decide +kernel, by decide +kernel⟩
theorem ok_Saying_of_days {C f fI fD CB fB : Addr} {fd fdI fdD fdB : FuncData} (F : FunD K "of_days" "Saying.of_days" (defArgs s_Saying_of_days) (defBody s_Saying_of_days) (defScope s_Saying_of_days) [.bl true] [] f fd)
    (D_is_day_set : Df K mg "is_day_set" ["thing"] fD fdD) (G_is_day_set : FnOk P w K mg base CX0 3 fD fdD ["thing"] (sp_is_day_set K)) (X : ErrF K mg "BadSaying" "what" CB fB fdB) (FB : Fun K "__init__" "BadSaying.__init__" s_BadSaying_init fB fdB)
    (S : SayC K C) (M : Mk K C fI) (bI : Binds K fdI ["self", "where", "then", "usual"] []) (GI : FnOk P w K mg base (L2.CX P w) 4 fI fdI ["self", "where", "then", "usual"] (sp_init K CB)) :
    FnOk P w K mg base (L2.CX P w) 6 f fd ["cls", "confirm", "broken", "usual"] (sp_of_days K C CB) := by
  have GB : FnOk P w K mg base CX0 2 fB fdB ["self", "what"] (sp_efld CB "what") := ok_BadSaying_init FB X.oex X.no
  refine F.ok sc_Saying_of_days (fun vs H Q E h => ?_) (fun cdv A outer s H vs Q E hr h => ?_)
  · obtain ⟨x, y, z, rfl, _⟩ := h
    rfl
  · obtain ⟨x, y, z, rfl, hx, hy, hz, qE, q⟩ := h
    refine ⟨_, (pss_cons (ps_if (pt_not (pt_val (pe_call G_is_day_set (hr.mono (by decide)) (by rfl) D_is_day_set.g D_is_day_set.kp D_is_day_set.b .nil pass0 (pa_cons (pv 1) pa_nil))))
          (pss_one (ps_raise rfl (takes_of rfl rfl rfl rfl) (pmk_fld X.oex X.iC X.tI GB (hr.mono (by decide)) X.b (by rfl) X.g pe_str))) pss_nil)
        (pss_cons (ps_if (pt_not (pt_val (pe_call G_is_day_set (hr.mono (by decide)) (by rfl) D_is_day_set.g D_is_day_set.kp D_is_day_set.b .nil pass0 (pa_cons (pv 2) pa_nil))))
          (pss_one (ps_raise rfl (takes_of rfl rfl rfl rfl) (pmk_fld X.oex X.iC X.tI GB (hr.mono (by decide)) X.b (by rfl) X.g pe_str))) pss_nil)
        (pss_cons (ps_if (pt_truth (pe_op op_and (pv 1) (pv 2)) (by intro _; rfl))
          (pss_one (ps_raise rfl (takes_of rfl rfl rfl rfl) (pmk_fld X.oex X.iC X.tI GB (hr.mono (by decide)) X.b (by rfl) X.g pe_str))) pss_nil)
        (pss_one (ps_ret (pe_makeL (i := 0) M GI (hr.mono (by decide)) rfl (Or.inl rfl) bI .nil (pass_of (E := E) (takes_of rfl rfl rfl rfl)) (pa_cons (pe_op op_or (pv 1) (pv 2)) (pa_cons (pv 1) (pa_cons (pv 3) pa_nil))))))))), ?_⟩
    refine ⟨_, rfl, x, rfl, hx, _, rfl, ?_⟩
    cases hw : whole 0 65535 x with
    | false =>
      refine iteT fun d H' h1 h2 h3 => qE _ ?_ d H' h1 h2 h3
      unfold partsWord
      rw [if_pos hw]
    | true =>
      obtain ⟨i, rfl, i0, i1⟩ := whole_int hw
      obtain ⟨c, rfl⟩ := Int.eq_ofNat_of_zero_le i0
      refine iteF ⟨_, rfl, y, rfl, hy, _, rfl, ?_⟩
      cases hv : whole 0 65535 y with
      | false =>
        refine iteT fun d H' h1 h2 h3 => qE _ ?_ d H' h1 h2 h3
        unfold partsWord
        rw [if_neg (by rw [hw]; decide), if_pos hv]
      | true =>
        obtain ⟨j, rfl, j0, j1⟩ := whole_int hv
        obtain ⟨b, rfl⟩ := Int.eq_ofNat_of_zero_le j0
        have ew : ∀ z, partsWord (.int (c : Int)) (.int (b : Int)) z = (if Builtin.bitAnd (c : Int) (b : Int) ≠ 0 then some ("overlap" : Str) else if (c : Int) + b = 0 then some ("where" : Str) else if isB z = false then some ("usual" : Str) else none : Option Str) := fun z => by
          unfold partsWord
          rw [if_neg (by rw [hw]; decide), if_neg (by rw [hv]; decide)]
        refine iteF ⟨_, rfl, _, rfl, _, _, rfl, rfl, (Builtin.bitAnd (c : Int) (b : Int) != 0), rfl, ?_⟩
        refine ite2 (fun e => ?_) (fun e => ?_)
        · have e' : Builtin.bitAnd (c : Int) (b : Int) ≠ 0 := bne_iff_ne.mp e
          refine fun d H' h1 h2 h3 => qE _ ?_ d H' h1 h2 h3
          rw [ew, if_pos e']
        have e' : ¬ Builtin.bitAnd (c : Int) (b : Int) ≠ 0 := fun k => e (bne_iff_ne.mpr k)
        have e2 : c &&& b = 0 := by
          have := and_cast c b
          omega
        have ew2 := ew z
        rw [if_neg e'] at ew2
        refine ⟨rfl, _, rfl, _, rfl, _, _, rfl, rfl, _, rfl, _, rfl, fun x d2 hx1 hd ne => ?_⟩
        have s2 := same_two (o := .own x) (u := .ins C d2 []) hx1 hd
        have hor : c ||| b < 2 ^ 16 := Nat.or_lt_two_pow (by omega) (by omega)
        refine ⟨x, C, d2, _, _, _, rfl, upd_same, S, .inl ⟨_, rfl⟩, .inl ⟨_, rfl⟩, hz.same s2, fun s zz => ?_, fun w' t' u' e1 e2' e3 _ _ _ => ?_⟩
        · refine Raised.same (qE s ?_) s2
          rw [ew2]
          have o1 : whole 1 65535 (.int (Builtin.bitOr (c : Int) (b : Int))) = decide (¬ (c : Int) + b = 0) := by
            show (decide (1 ≤ Builtin.bitOr (c : Int) (b : Int)) && decide (Builtin.bitOr (c : Int) (b : Int) ≤ 65535)) = _
            rw [or_cast]
            have := or_zero (c := c) (b := b)
            by_cases k0 : c + b = 0
            · rw [this.mpr k0]
              simp
              omega
            · have k1 : ¬ (c ||| b) = 0 := fun k => k0 (this.mp k)
              rw [decide_eq_true (by omega), decide_eq_true (by omega), decide_eq_true (by omega)]
              rfl
          unfold sayWord at zz
          rw [o1] at zz
          by_cases k0 : (c : Int) + b = 0
          · rw [if_pos (by simpa using k0)] at zz
            rw [if_pos k0]
            exact zz
          · rw [if_neg (by simpa using k0), if_neg (by rw [hw]; decide)] at zz
            rw [if_neg k0]
            exact zz
        · injection e1 with e1
          injection e2' with e2'
          have e1 : Builtin.bitOr (c : Int) (b : Int) = (w' : Int) := e1
          rw [or_cast] at e1
          obtain rfl : c ||| b = w' := by omega
          obtain rfl : c = t' := by omega
          have hpos : 1 ≤ c ||| b := by assumption
          have k0 : ¬ (c : Int) + b = 0 := fun k => by
            have := (or_zero (c := c) (b := b)).mpr (by omega)
            omega
          refine ⟨rfl, q c b u' rfl rfl e3 e2 ?_ x _ hx1 ?_ ⟨d2, upd_same, hpos, by omega, by omega⟩⟩
          · rw [ew2, if_neg k0, e3]
            rfl
          · rw [upd_upd]
            exact same_two hx1 hd
end
end My
set_option Elab.async false
set_option maxRecDepth 100000
set_option maxHeartbeats 4000000
namespace My
open PySem L2 ClX
theorem sum_split (f : Nat → Nat) (p : Nat → Bool) : ∀ ds : List Nat, ((ds.filter p).map f).sum + ((ds.filter fun d => !p d).map f).sum = (ds.map f).sum
  | [] => rfl
  | d :: r => by
    have ih := sum_split f p r
    by_cases h : p d = true
    · rw [List.filter_cons_of_pos h, List.filter_cons_of_neg (by simp [h]), List.map_cons, List.sum_cons, List.map_cons, List.sum_cons]
      omega
    · rw [List.filter_cons_of_neg h, List.filter_cons_of_pos (by simp [h]), List.map_cons, List.sum_cons, List.map_cons, List.sum_cons]
      omega
theorem brk_bit {w t : Nat} (hw : w < 2 ^ 16) (d : Nat) : (brk w t).testBit d = (w.testBit d && !t.testBit d) := by
  have e1 : ((daysOf w).filter fun d => t.testBit d) = daysOf (w &&& t) := by
    unfold daysOf
    rw [List.filter_filter]
    refine List.filter_congr fun d _ => ?_
    rw [Nat.testBit_and, Bool.and_comm]
  have s1 : ((daysOf w).map fun d => 2 ^ d).sum = w := by rw [sum_setOf (nodup_daysOf w), setOf_days hw]
  have s2 : (((daysOf w).filter fun d => t.testBit d).map fun d => 2 ^ d).sum = w &&& t := by
    rw [e1, sum_setOf (nodup_daysOf _), setOf_days (Nat.lt_of_le_of_lt Nat.and_le_left hw)]
  have s3 := sum_split (fun d => 2 ^ d) (fun d => t.testBit d) (daysOf w)
  have s4 : (((daysOf w).filter fun d => !t.testBit d).map fun d => 2 ^ d).sum = setOf ((daysOf w).filter fun d => !t.testBit d) := sum_setOf (List.Pairwise.filter _ (nodup_daysOf w))
  have s5 : brk w t = setOf ((daysOf w).filter fun d => !t.testBit d) := by
    unfold brk
    rw [← s4]
    omega
  rw [s5, setOf_bit]
  by_cases h : w.testBit d = true
  · have hd : d < 16 := by
      refine Nat.lt_of_not_le fun hd => ?_
      rw [Nat.testBit_lt_two_pow (Nat.lt_of_lt_of_le hw (Nat.pow_le_pow_right (by decide) hd))] at h
      cases h
    simp [mem_daysOf, h, hd]
  · simp [mem_daysOf, h]
theorem brk_not {w t : Nat} (hw : w < 2 ^ 16) {d : Nat} (h : (w &&& t).testBit d = true) : (brk w t).testBit d = false := by
  rw [brk_bit hw]
  rw [Nat.testBit_and] at h
  simp [(Bool.and_eq_true_iff.mp h).2]
theorem disj {w t : Nat} (hw : w < 2 ^ 16) : (w &&& t) &&& brk w t = 0 := by
  refine Nat.eq_of_testBit_eq fun i => ?_
  rw [Nat.testBit_and, brk_bit hw, Nat.testBit_and, Nat.zero_testBit]
  cases w.testBit i <;> cases t.testBit i <;> rfl
theorem both {w t : Nat} (hw : w < 2 ^ 16) : (w &&& t) ||| brk w t = w := by
  refine Nat.eq_of_testBit_eq fun i => ?_
  rw [Nat.testBit_or, brk_bit hw, Nat.testBit_and]
  cases w.testBit i <;> cases t.testBit i <;> rfl
end My
set_option Elab.async false
set_option maxRecDepth 100000
set_option maxHeartbeats 4000000
namespace My
open PySem L2 ClX
/-! ### verdicts -/
structure Err0 (K : PySem.W.Frag) (mg : Str → Option Value) (x : Str) (C fI : Addr) (fd : FuncData) : Prop where
  g : mg x = some (.ref C)
  oex : OexC K C
  iC : PySem.W.findIn K (.ref C) "__init__" = some (some (.ref fI))
  tI : PySem.W.typeIn K (.ref fI) = some (.type "function")
  b : Binds K fd ["self"] []
  te : PySem.W.exmOne K (.ref C) (.ref C) = some true
def verFs (c b : Nat) : List (Str × V) := [("confirm", .int c), ("broken", .int b)]
/-- a good pair -/
def Gp (c b : Nat) : Prop := c &&& b = 0 ∧ c < 65536 ∧ b < 65536
def Ver (C : Addr) (H : Hp) (a : Addr) (c b : Nat) : Prop := ∃ dx, H a = some (.ins C dx (verFs c b)) ∧ Gp c b
theorem Ver.same {C a : Addr} {H H' : Hp} {c b : Nat} (h : Ver C H a c b) (s : Same H H') : Ver C H' a c b := by
  obtain ⟨dx, e, r⟩ := h
  exact ⟨dx, s _ _ e, r⟩
structure VerC (K : PySem.W.Frag) (C : Addr) : Prop where
  cl : Cls K C
  nC : NoAttr K C "confirm"
  nB : NoAttr K C "broken"
structure VerK (K : PySem.W.Frag) (C g ga : Addr) : Prop where
  ha : PySem.W.findIn K (.ref C) "__class__" = some (some (.builtin "object.__class__"))
  hn : PySem.W.specialIn K (.builtin "object.__class__") "__get__" = some (some (.builtin "getset_descriptor.__get__"))
  tk : PySem.W.takesIn K (.builtin "object.__class__") = some true
  hm : PySem.W.mroIn K C (.type "object") = some true
  kt : PySem.W.kitOne K (.type "tuple") (.ref C) = some false
  nf : PySem.W.subIn K (.type "tuple") (.ref C) = some false
  eq : PySem.W.findIn K (.ref C) "__eq__" = some (some (.ref g))
  fe : PySem.W.isFn K (.ref g) = true
  ad : PySem.W.findIn K (.ref C) "__add__" = some (some (.ref ga))
  fa : PySem.W.isFn K (.ref ga) = true
  sf : PySem.W.selfFirst K C = true
def vok (x y : V) : Bool := whole 0 65535 x && whole 0 65535 y && (match x, y with | .int i, .int j => Builtin.bitAnd i j == 0 | _, _ => false)
def sp_vinit (K : PySem.W.Frag) (CB : Addr) : Sp := fun vs H Q E => ∃ (a C dx : Addr) (x y : V), vs = [.ref a, x, y] ∧ H a = some (.ins C dx []) ∧ VerC K C ∧ Th K H x ∧ Th K H y ∧ (vok x y = false → E (.ref CB) none H) ∧
  (∀ c b : Nat, x = .int c → y = .int b → Gp c b → Q .non (upd H a (.ins C dx (verFs c b))))
def NewVer (C : Addr) (c b : Nat) (Q : VK) (H : Hp) : Prop := ∀ (a : Addr) (H' : Hp), H a = none → Same H H' → Ver C H' a c b → Q (.ref a) H'
def sp_none (C : Addr) : Sp := fun vs H Q _ => vs = [.ref C] ∧ NewVer C 0 0 Q H
def sp_von (K : PySem.W.Frag) (C CN : Addr) : Sp := fun vs H Q E => ∃ (a : Addr) (c b : Nat) (x : V), vs = [.ref a, x] ∧ Ver C H a c b ∧ Th K H x ∧ (whole 0 15 x = false → Raised CN "day" x E H) ∧ (∀ d : Nat, x = .int d → d < 16 → Q (.str (verd c b d)) H)
/-- the sum -/
def addC (c1 b1 c2 b2 : Nat) : Nat := brk (c1 ||| c2) (b1 ||| b2)
def sp_add (C : Addr) : Sp := fun vs H Q _ => ∃ (x y : Addr) (c1 b1 c2 b2 : Nat), vs = [.ref x, .ref y] ∧ Ver C H x c1 b1 ∧ Ver C H y c2 b2 ∧ NewVer C (addC c1 b1 c2 b2) (b1 ||| b2) Q H
def sp_veq (K : PySem.W.Frag) (C : Addr) : Sp := fun vs H Q _ => ∃ (a : Addr) (y : V) (c b : Nat), vs = [.ref a, y] ∧ Ver C H a c b ∧
  ((∃ (p : Addr) (c' b' : Nat), y = .ref p ∧ Ver C H p c' b' ∧ Q (.bl (decide (c = c' ∧ b = b'))) H) ∨ (∃ T, TyX K H y T ∧ PySem.W.kitOne K T (.ref C) = some false ∧ Q (.bl false) H))
theorem or_lt {a b : Nat} (h1 : a < 65536) (h2 : b < 65536) : a ||| b < 65536 := Nat.or_lt_two_pow (n := 16) h1 h2
theorem gp_add {c1 b1 c2 b2 : Nat} (h1 : Gp c1 b1) (h2 : Gp c2 b2) : Gp (addC c1 b1 c2 b2) (b1 ||| b2) := by
  have hc := or_lt h1.2.1 h2.2.1
  refine ⟨Nat.eq_of_testBit_eq fun i => ?_, Nat.lt_of_le_of_lt (brk_le _ _) hc, or_lt h1.2.2 h2.2.2⟩
  unfold addC
  rw [Nat.testBit_and, brk_bit hc, Nat.zero_testBit]
  cases (b1 ||| b2).testBit i <;> simp
section
variable {P : Program} {w : World} {K : PySem.W.Frag} {mg : Str → Option Value} {base : Heap}
abbrev s_BadVerdicts_init : Stmt := inClass (top 7) 0
theorem sc_BadVerdicts_init : FnScope ["self"] ["self"] (defScope s_BadVerdicts_init) := ⟨rfl, rfl, rfl, by decide +kernel, rfl, by decide +kernel, by decide +kernel⟩
theorem ok_BadVerdicts_init {f : Addr} {fd : FuncData} (F : Fun K "__init__" "BadVerdicts.__init__" s_BadVerdicts_init f fd) : FnOk P w K mg base CX0 2 f fd ["self"] sp_pass := by
  refine F.ok sc_BadVerdicts_init (fun vs H Q E h => ?_) (fun cdv A outer s H vs Q E hr h => ?_)
  · obtain ⟨a, rfl, _⟩ := h
    rfl
  · obtain ⟨a, rfl, q⟩ := h
    exact ⟨_, pss_one ps_pass, q⟩
abbrev s_Verdicts_init : Stmt := inClass (top 18) 0
abbrev N_Verdicts_init : List Str := ["self", "confirm", "broken"]
theorem sc_Verdicts_init : FnScope N_Verdicts_init ["self", "confirm", "broken"] (defScope s_Verdicts_init) := ⟨rfl, rfl, rfl, by decide +kernel, rfl, by decide +kernel, by decide +kernel⟩
theorem ok_Verdicts_init {f fD CB fB : Addr} {fd fdD fdB : FuncData} (F : Fun K "__init__" "Verdicts.__init__" s_Verdicts_init f fd)
    (D_is_day_set : Df K mg "is_day_set" ["thing"] fD fdD) (G_is_day_set : FnOk P w K mg base CX0 3 fD fdD ["thing"] (sp_is_day_set K)) (X : Err0 K mg "BadVerdicts" CB fB fdB) (FB : Fun K "__init__" "BadVerdicts.__init__" s_BadVerdicts_init fB fdB) :
    FnOk P w K mg base (L2.CX P w) 4 f fd ["self", "confirm", "broken"] (sp_vinit K CB) := by
  have GB : FnOk P w K mg base CX0 2 fB fdB ["self"] sp_pass := ok_BadVerdicts_init FB
  refine F.okX sc_Verdicts_init (fun vs H Q E h => ?_) (fun cdv A outer s H vs Q E hr h => ?_)
  · obtain ⟨a, C, dx, x, y, rfl, _⟩ := h
    rfl
  · obtain ⟨a, C, dx, x, y, rfl, ha, S, hx, hy, qE, q⟩ := h
    refine ⟨_, (pss_cons (ps_if (PW.pt (pw_or (pt_not (pt_val (pe_call G_is_day_set (hr.mono (by decide)) (by rfl) D_is_day_set.g D_is_day_set.kp D_is_day_set.b .nil pass0 (pa_cons (pv 1) pa_nil))))
          (pw_or (pt_not (pt_val (pe_call G_is_day_set (hr.mono (by decide)) (by rfl) D_is_day_set.g D_is_day_set.kp D_is_day_set.b .nil pass0 (pa_cons (pv 2) pa_nil)))) (pw_or1 (pt_truth (pe_op op_and (pv 1) (pv 2)) (by intro _; rfl))))))
          (pss_one (ps_raise rfl (takes_of rfl rfl rfl rfl) (pmk_pass X.oex X.iC X.tI GB (hr.mono (by decide)) X.b (by rfl) X.g))) pss_nil)
        (pss_cons (ps_fld (pv 0) (pv 1) rfl)
        (pss_one (ps_fld (pv 0) (pv 2) rfl)))), ?_⟩
    refine ⟨_, rfl, x, rfl, hx, _, rfl, ?_⟩
    cases hw : whole 0 65535 x with
    | false =>
      refine iteT (qE ?_)
      unfold vok
      rw [hw]; rfl
    | true =>
      obtain ⟨i, rfl, i0, i1⟩ := whole_int hw
      obtain ⟨c, rfl⟩ := Int.eq_ofNat_of_zero_le i0
      refine iteF ⟨_, rfl, y, rfl, hy, _, rfl, ?_⟩
      cases hv : whole 0 65535 y with
      | false =>
        refine iteT (qE ?_)
        unfold vok
        rw [hw, hv]; rfl
      | true =>
        obtain ⟨j, rfl, j0, j1⟩ := whole_int hv
        obtain ⟨b, rfl⟩ := Int.eq_ofNat_of_zero_le j0
        refine iteF ⟨_, rfl, _, rfl, _, _, rfl, rfl, (Builtin.bitAnd (c : Int) (b : Int) != 0), rfl, ?_⟩
        refine ite2 (fun e => ?_) (fun e => ?_)
        · refine qE ?_
          unfold vok
          rw [hw, hv]
          have e' : Builtin.bitAnd (c : Int) (b : Int) ≠ 0 := bne_iff_ne.mp e
          simpa using e'
        · have e' : Builtin.bitAnd (c : Int) (b : Int) = 0 := by
            by_cases z : Builtin.bitAnd (c : Int) (b : Int) = 0
            · exact z
            · exact (e (bne_iff_ne.mpr z)).elim
          have e2 : c &&& b = 0 := by
            have := and_cast c b
            omega
          refine ⟨_, rfl, _, rfl, a, C, dx, _, rfl, ha, S.cl, S.nC, by decide, ?_⟩
          refine ⟨_, rfl, _, rfl, a, C, dx, _, rfl, upd_same, S.cl, S.nB, by show (1 : Nat) < 1000; decide, ?_⟩
          rw [upd_upd]
          exact q c b rfl rfl ⟨e2, by omega, by omega⟩
theorem vok_good {c b : Nat} (h : Gp c b) : vok (.int c) (.int b) = true := by
  have h1 : whole 0 65535 (.int (c : Int)) = true := by
    show (decide (0 ≤ (c : Int)) && decide ((c : Int) ≤ 65535)) = true
    have := h.2.1
    simp; omega
  have h2 : whole 0 65535 (.int (b : Int)) = true := by
    show (decide (0 ≤ (b : Int)) && decide ((b : Int) ≤ 65535)) = true
    have := h.2.2
    simp; omega
  unfold vok
  rw [h1, h2]
  show (true && true && (Builtin.bitAnd (c : Int) (b : Int) == 0)) = true
  rw [and_cast, h.1]
  rfl
theorem vinit_ok {C CB x d2 : Addr} {H : Hp} {c b : Nat} {R : Hp → Prop} {E : XK} (S : VerC K C) (hx : H x = none) (hd : H d2 = none) (g : Gp c b) (q : ∀ H', Same H H' → Ver C H' x c b → R H') :
    sp_vinit K CB [.ref x, .int c, .int b] (upd (upd H d2 (.own x)) x (.ins C d2 [])) (fun v H2 => v = .non ∧ R H2) E := by
  refine ⟨x, C, d2, _, _, rfl, upd_same, S, .inl ⟨_, rfl⟩, .inl ⟨_, rfl⟩, fun z => ?_, fun c' b' e1 e2 _ => ?_⟩
  · rw [vok_good g] at z
    cases z
  · injection e1 with e1
    injection e2 with e2
    obtain rfl : c = c' := by omega
    obtain rfl : b = b' := by omega
    refine ⟨rfl, q _ ?_ ⟨d2, upd_same, g⟩⟩
    rw [upd_upd]
    exact same_two hx hd
abbrev s_Verdicts_none : Stmt := inClass (top 18) 1
theorem sc_Verdicts_none : FnScope ["cls"] ["cls"] (defScope s_Verdicts_none) := ⟨rfl, rfl, rfl, by decide +kernel, rfl, by decide +kernel, by decide +kernel⟩
theorem ok_Verdicts_none {C CB f fI : Addr} {fd fdI : FuncData} (F : Fun K "none" "Verdicts.none" s_Verdicts_none f fd) (S : VerC K C) (M : Mk K C fI) (bI : Binds K fdI ["self", "confirm", "broken"] []) (GI : FnOk P w K mg base (L2.CX P w) 4 fI fdI ["self", "confirm", "broken"] (sp_vinit K CB)) :
    FnOk P w K mg base CX0 6 f fd ["cls"] (sp_none C) := by
  refine F.ok sc_Verdicts_none (fun vs H Q E h => ?_) (fun cdv A outer s H vs Q E hr h => ?_)
  · obtain ⟨rfl, _⟩ := h
    rfl
  · obtain ⟨rfl, q⟩ := h
    refine ⟨_, (pss_one (ps_ret (pe_makeL (i := 0) M GI (hr.mono (by decide)) rfl (Or.inl rfl) bI .nil passL (pa_cons pe_int (pa_cons pe_int pa_nil))))), ?_⟩
    exact ⟨rfl, fun x d2 hx hd ne => vinit_ok (c := 0) (b := 0) S hx hd ⟨rfl, by decide, by decide⟩ fun H' s h => q x H' hx s h⟩
abbrev s_Verdicts_on : Stmt := inClass (top 18) 2
theorem sc_Verdicts_on : FnScope ["self", "day"] ["self", "day"] (defScope s_Verdicts_on) := ⟨rfl, rfl, rfl, by decide +kernel, rfl, by decide +kernel, by decide +kernel⟩
theorem ok_Verdicts_on {C CN f fV : Addr} {fd fdV : FuncData} (F : Fun K "on" "Verdicts.on" s_Verdicts_on f fd) (S : VerC K C) (D_verdict_on : Df K mg "verdict_on" ["confirm", "broken", "day"] fV fdV) (G_verdict_on : FnOk P w K mg base (L2.CX P w) 4 fV fdV ["confirm", "broken", "day"] (sp_verdict K CN)) :
    FnOk P w K mg base (L2.CX P w) 5 f fd ["self", "day"] (sp_von K C CN) := by
  refine F.okX sc_Verdicts_on (fun vs H Q E h => ?_) (fun cdv A outer s H vs Q E hr h => ?_)
  · obtain ⟨a, c, b, x, rfl, _⟩ := h
    rfl
  · obtain ⟨a, c, b, x, rfl, ⟨dx, ha, _⟩, hx, qE, q⟩ := h
    refine ⟨_, (pss_one (ps_ret (pe_call G_verdict_on (hr.mono (by decide)) (by rfl) D_verdict_on.g D_verdict_on.kp D_verdict_on.b .nil (pass_of (E := E) (takes_of rfl rfl rfl rfl)) (pa_cons (pe_fld (pv 0) rfl) (pa_cons (pe_fld (pv 0) rfl) (pa_cons (pv 1) pa_nil)))))), ?_⟩
    refine ⟨_, rfl, a, C, dx, _, _, rfl, ha, S.cl, S.nC, rfl, ?_⟩
    refine ⟨_, rfl, a, C, dx, _, _, rfl, ha, S.cl, S.nB, rfl, ?_⟩
    exact ⟨_, rfl, _, _, x, rfl, hx, qE, q⟩
abbrev s_Verdicts_add : Stmt := inClass (top 18) 3
theorem sc_Verdicts_add : FnScope ["self", "other", "broken"] ["self", "other"] (defScope s_Verdicts_add) := ⟨rfl, rfl, rfl, by decide +kernel, rfl, by decide +kernel, by decide +kernel⟩
theorem ok_Verdicts_add {C CB f fI : Addr} {fd fdI : FuncData} (F : Fun K "__add__" "Verdicts.__add__" s_Verdicts_add f fd) (S : VerC K C) (gC : mg "Verdicts" = some (.ref C)) (M : Mk K C fI) (bI : Binds K fdI ["self", "confirm", "broken"] []) (GI : FnOk P w K mg base (L2.CX P w) 4 fI fdI ["self", "confirm", "broken"] (sp_vinit K CB)) :
    FnOk P w K mg base CX0 6 f fd ["self", "other"] (sp_add C) := by
  refine F.ok sc_Verdicts_add (fun vs H Q E h => ?_) (fun cdv A outer s H vs Q E hr h => ?_)
  · obtain ⟨x, y, c1, b1, c2, b2, rfl, _⟩ := h
    rfl
  · obtain ⟨x, y, c1, b1, c2, b2, rfl, ⟨dx, hx, g1⟩, ⟨dy, hy, g2⟩, q⟩ := h
    refine ⟨_, (pss_cons (ps_set (i := 2) sc_Verdicts_add.nd rfl (Or.inl rfl) (pe_op op_or (pe_fld (pv 0) rfl) (pe_fld (pv 1) rfl)))
        (pss_one (ps_ret (pe_make M GI (hr.mono (by decide)) (by rfl) gC bI .nil passL (pa_cons (pe_op op_and (pe_op op_or (pe_fld (pv 0) rfl) (pe_fld (pv 1) rfl)) (pe_un un_inv (pv 2))) (pa_cons (pv 2) pa_nil)))))), ?_⟩
    refine ⟨_, rfl, x, C, dx, _, _, rfl, hx, S.cl, S.nB, rfl, _, rfl, y, C, dy, _, _, rfl, hy, S.cl, S.nB, rfl, _, _, rfl, rfl, ?_⟩
    refine ⟨_, rfl, x, C, dx, _, _, rfl, hx, S.cl, S.nC, rfl, _, rfl, y, C, dy, _, _, rfl, hy, S.cl, S.nC, rfl, _, _, rfl, rfl, _, rfl, _, rfl, _, _, rfl, rfl, _, rfl, ?_⟩
    intro z d2 hz hd ne
    show sp_vinit K CB [.ref z, .int (Builtin.bitAnd (Builtin.bitOr (c1 : Int) (c2 : Int)) (Builtin.bitNot (Builtin.bitOr (b1 : Int) (b2 : Int)))), .int (Builtin.bitOr (b1 : Int) (b2 : Int))] _ _ _
    rw [or_cast, or_cast, brk_and]
    exact vinit_ok S hz hd (gp_add g1 g2) fun H' s h => q z H' hz s h
abbrev s_Verdicts_eq : Stmt := inClass (top 18) 4
theorem sc_Verdicts_eq : FnScope ["self", "other"] ["self", "other"] (defScope s_Verdicts_eq) := ⟨rfl, rfl, rfl, by decide +kernel, rfl, by decide +kernel, by decide +kernel⟩
theorem ver_ty {C g ga a : Addr} {H : Hp} {c b : Nat} (S : VerC K C) (S2 : VerK K C g ga) (h : Ver C H a c b) : TyX K H (.ref a) (.ref C) := by
  obtain ⟨dx, e, _⟩ := h
  exact .base (.ins e S.cl S2.ha S2.hn S2.tk S2.hm)
theorem kit_self (K : PySem.W.Frag) (C : Addr) : PySem.W.kitOne K (.ref C) (.ref C) = some true := by
  unfold PySem.W.kitOne
  rw [if_pos (by simp)]
theorem ok_Verdicts_eq {C f ga : Addr} {fd : FuncData} (F : Fun K "__eq__" "Verdicts.__eq__" s_Verdicts_eq f fd) (T : BtY mg) (S : VerC K C) (S2 : VerK K C f ga) (gC : mg "Verdicts" = some (.ref C)) : FnOk P w K mg base CX0 2 f fd ["self", "other"] (sp_veq K C) := by
  refine F.ok sc_Verdicts_eq (fun vs H Q E h => ?_) (fun cdv A outer s H vs Q E hr h => ?_)
  · obtain ⟨a, y, c, b, rfl, _⟩ := h
    rfl
  · obtain ⟨a, y, c, b, rfl, ⟨dx, ha, _⟩, q⟩ := h
    refine ⟨_, (pss_one (ps_ret (pe_and (pe_callB call_isi (by rfl) T.isinstance (by decide +kernel) (pa_cons (pv 1) (pa_cons (pe_glob (v := .ref C) (by rfl) gC rfl) pa_nil)))
      (pe_and (pe_cmpR op_eq (pe_fld (pv 0) rfl) (pe_fld (pv 1) rfl) (nomark _)) (pe_one (pe_cmpR op_eq (pe_fld (pv 0) rfl) (pe_fld (pv 1) rfl) (nomark _))))))), ?_⟩
    rcases q with ⟨p, c', b', rfl, hS', q⟩ | ⟨T', ty, kt, q⟩
    · have ty := ver_ty S S2 hS'
      obtain ⟨dy, hb, _⟩ := hS'
      refine ⟨_, rfl, _, _, _, _, true, rfl, .own C, ty, kit_self K C, _, rfl, iteT ?_⟩
      refine ⟨_, rfl, a, C, dx, _, _, rfl, ha, S.cl, S.nC, rfl, _, rfl, p, C, dy, _, _, rfl, hb, S.cl, S.nC, rfl, rfl, _, rfl, ?_⟩
      refine ite2 (fun e1 => ?_) (fun e1 => ?_)
      · have e1' : V.int c = V.int c' := of_decide_eq_true e1
        injection e1' with e1'
        have e1' : c = c' := by omega
        refine ⟨_, rfl, a, C, dx, _, _, rfl, ha, S.cl, S.nB, rfl, _, rfl, p, C, dy, _, _, rfl, hb, S.cl, S.nB, rfl, rfl, ?_⟩
        have e3 : decide (c = c' ∧ b = b') = decide (V.int b = V.int b') := decide_eq_decide.mpr ⟨fun z => by rw [z.2], fun z => ⟨e1', by injection z with z; omega⟩⟩
        rw [e3] at q
        exact q
      · have e3 : decide (c = c' ∧ b = b') = false := decide_eq_false fun z => e1 (decide_eq_true (by rw [z.1]))
        rw [e3] at q
        exact q
    · exact ⟨_, rfl, _, _, _, _, false, rfl, .own C, ty, kt, _, rfl, iteF q⟩
end
end My
set_option Elab.async false
set_option maxRecDepth 100000
set_option maxHeartbeats 4000000
namespace My
open PySem L2 ClX
/-! ### verdicts joined, as pairs -/
abbrev Pr := Nat × Nat
def anyC (ps : List Pr) (d : Nat) : Bool := ps.any fun p => p.1.testBit d
def anyB (ps : List Pr) (d : Nat) : Bool := ps.any fun p => p.2.testBit d
def jB (ps : List Pr) : Nat := setOf ((List.range 16).filter fun d => anyB ps d)
def jC (ps : List Pr) : Nat := setOf ((List.range 16).filter fun d => anyC ps d && !anyB ps d)
def GpP (p : Pr) : Prop := Gp p.1 p.2
theorem jB_bit (ps : List Pr) (i : Nat) : (jB ps).testBit i = (decide (i < 16) && anyB ps i) := by
  unfold jB
  rw [setOf_bit]
  by_cases h : i < 16 <;> simp [h]
theorem jC_bit (ps : List Pr) (i : Nat) : (jC ps).testBit i = (decide (i < 16) && (anyC ps i && !anyB ps i)) := by
  unfold jC
  rw [setOf_bit]
  by_cases h : i < 16 <;> simp [h]
theorem j_lt (ps : List Pr) : jC ps < 65536 ∧ jB ps < 65536 :=
  ⟨setOf_lt (m := 16) fun d hd => List.mem_range.mp (List.mem_filter.mp hd).1, setOf_lt (m := 16) fun d hd => List.mem_range.mp (List.mem_filter.mp hd).1⟩
theorem j_gp (ps : List Pr) : Gp (jC ps) (jB ps) := by
  refine ⟨Nat.eq_of_testBit_eq fun i => ?_, (j_lt ps).1, (j_lt ps).2⟩
  rw [Nat.testBit_and, jC_bit, jB_bit, Nat.zero_testBit]
  cases anyB ps i <;> simp
theorem bit_lt {n i : Nat} (h : n < 65536) (hi : ¬ i < 16) : n.testBit i = false := Nat.testBit_lt_two_pow (Nat.lt_of_lt_of_le (show n < 2 ^ 16 from h) (Nat.pow_le_pow_right (by decide) (by omega)))
theorem gp_bit {c b : Nat} (h : Gp c b) (i : Nat) : (c.testBit i && b.testBit i) = false := by
  rw [← Nat.testBit_and, h.1, Nat.zero_testBit]
theorem add_bit2 {c1 b1 c2 b2 : Nat} (h1 : c1 < 65536) (h2 : c2 < 65536) (i : Nat) : (addC c1 b1 c2 b2).testBit i = ((c1.testBit i || c2.testBit i) && !(b1.testBit i || b2.testBit i)) := by
  unfold addC
  rw [brk_bit (or_lt h1 h2), Nat.testBit_or, Nat.testBit_or]
theorem j_snoc (ps : List Pr) (p : Pr) (g : GpP p) : addC (jC ps) (jB ps) p.1 p.2 = jC (ps ++ [p]) ∧ jB ps ||| p.2 = jB (ps ++ [p]) := by
  obtain ⟨c, b⟩ := p
  have hc : c < 65536 := g.2.1
  have hb : b < 65536 := g.2.2
  have eC : ∀ i, anyC (ps ++ [(c, b)]) i = (anyC ps i || c.testBit i) := fun i => by simp [anyC]
  have eB : ∀ i, anyB (ps ++ [(c, b)]) i = (anyB ps i || b.testBit i) := fun i => by simp [anyB]
  constructor
  · refine Nat.eq_of_testBit_eq fun i => ?_
    rw [add_bit2 (j_lt ps).1 hc, jC_bit, jC_bit, jB_bit, eC, eB]
    have gb := gp_bit g i
    by_cases hi : i < 16
    · simp only [hi, decide_true, Bool.true_and]
      cases anyC ps i <;> cases anyB ps i <;> cases c.testBit i <;> cases b.testBit i <;> rfl
    · simp [hi, bit_lt hc hi]
  · refine Nat.eq_of_testBit_eq fun i => ?_
    show (jB ps ||| b).testBit i = _
    rw [Nat.testBit_or, jB_bit, jB_bit, eB]
    by_cases hi : i < 16
    · simp [hi]
    · simp [hi, bit_lt hb hi]
theorem j_nil : jC [] = 0 ∧ jB [] = 0 := ⟨rfl, rfl⟩
/-- a list (tuple) of things, each standing for an item -/
def Each {α : Type} (R : Hp → V → α → Prop) (H : Hp) (xs : List V) (ps : List α) : Prop := xs.length = ps.length ∧ ∀ (i : Nat) (x : V) (p : α), xs[i]? = some x → ps[i]? = some p → R H x p
def IsSay (C : Addr) (H : Hp) (x : V) (p : Pr) : Prop := ∃ (a : Addr) (w t : Nat) (u : Bool), x = .ref a ∧ Say C H a w t u ∧ p = (w &&& t, brk w t)
def IsVer (C : Addr) (H : Hp) (x : V) (p : Pr) : Prop := ∃ a : Addr, x = .ref a ∧ Ver C H a p.1 p.2
def IsPair (H : Hp) (x : V) (p : Pr) : Prop := ∃ a : Addr, x = .ref a ∧ H a = some (.tup [.int p.1, .int p.2]) ∧ GpP p
theorem IsSay.same {C : Addr} {H H' : Hp} {x : V} {p : Pr} (h : IsSay C H x p) (s : Same H H') : IsSay C H' x p := by
  obtain ⟨a, w, t, u, e, hS, ep⟩ := h
  exact ⟨a, w, t, u, e, hS.same s, ep⟩
theorem IsVer.same {C : Addr} {H H' : Hp} {x : V} {p : Pr} (h : IsVer C H x p) (s : Same H H') : IsVer C H' x p := by
  obtain ⟨a, e, hS⟩ := h
  exact ⟨a, e, hS.same s⟩
theorem IsPair.same {H H' : Hp} {x : V} {p : Pr} (h : IsPair H x p) (s : Same H H') : IsPair H' x p := by
  obtain ⟨a, e, hS, g⟩ := h
  exact ⟨a, e, s _ _ hS, g⟩
theorem IsSay.gp {C : Addr} {H : Hp} {x : V} {p : Pr} (h : IsSay C H x p) : GpP p := by
  obtain ⟨a, w, t, u, e, ⟨dx, _, w0, w1, t1⟩, rfl⟩ := h
  exact ⟨disj w1, Nat.lt_of_le_of_lt Nat.and_le_left w1, Nat.lt_of_le_of_lt (brk_le w t) w1⟩
def sp_verdicts_of (CS CV : Addr) : Sp := fun vs H Q _ => ∃ (x : V) (p : Pr), vs = [x] ∧ IsSay CS H x p ∧ NewVer CV p.1 p.2 Q H
def sp_joined (K : PySem.W.Frag) (tp : Bool) (CS CV : Addr) : Sp := fun vs H Q _ => ∃ (a : Addr) (xs : List V) (ps : List Pr), vs = [.ref a] ∧ (if tp = true then SqT K H a xs else SqL K H a xs) ∧ Each (IsSay CS) H xs ps ∧ NewVer CV (jC ps) (jB ps) Q H
def sp_within : Sp := fun vs H Q _ => ∃ n m : Nat, vs = [.int n, .int m] ∧ Q (.bl (decide (n &&& m = n))) H
def shp (p q : Pr) : Bool := decide (p.1 &&& q.1 = p.1) && decide (q.2 &&& p.2 = q.2)
def sp_sharper (CV : Addr) : Sp := fun vs H Q _ => ∃ (x y : V) (p q : Pr), vs = [x, y] ∧ IsVer CV H x p ∧ IsVer CV H y q ∧ Q (.bl (shp p q)) H
def sp_l_told (CV : Addr) : Sp := fun vs H Q _ => ∃ (x : V) (p : Pr), vs = [x] ∧ IsVer CV H x p ∧ ∀ a, H a = none → Q (.ref a) (upd H a (.tup [.int p.1, .int p.2]))
def wordOf (p : Pr) (d : Nat) : Str := if p.2.testBit d = true then "broken" else if p.1.testBit d = true then "confirmed" else "silent"
def sp_l_word : Sp := fun vs H Q _ => ∃ (x : V) (p : Pr) (d : Nat), vs = [x, .int d] ∧ IsPair H x p ∧ Q (.str (wordOf p d)) H
section
variable {P : Program} {w : World} {K : PySem.W.Frag} {mg : Str → Option Value} {base : Heap}
abbrev s_verdicts_of : Stmt := top 19
theorem sc_verdicts_of : FnScope ["saying"] ["saying"] (defScope s_verdicts_of) := ⟨rfl, rfl, rfl, by decide +kernel, rfl, by decide +kernel, by decide +kernel⟩
theorem ok_verdicts_of {CS CV CB f fI : Addr} {fd fdI : FuncData} (F : Fun K "verdicts_of" "verdicts_of" s_verdicts_of f fd) (SS : SayC K CS) (SV : VerC K CV) (gV : mg "Verdicts" = some (.ref CV)) (MV : Mk K CV fI) (bIV : Binds K fdI ["self", "confirm", "broken"] [])
    (GIV : FnOk P w K mg base (L2.CX P w) 4 fI fdI ["self", "confirm", "broken"] (sp_vinit K CB)) : FnOk P w K mg base CX0 6 f fd ["saying"] (sp_verdicts_of CS CV) := by
  refine F.ok sc_verdicts_of (fun vs H Q E h => ?_) (fun cdv A outer s H vs Q E hr h => ?_)
  · obtain ⟨x, p, rfl, _⟩ := h
    rfl
  · obtain ⟨x, p, rfl, hx, q⟩ := h
    have gp := hx.gp
    obtain ⟨a, w, t, u, rfl, ⟨dx, ha, _⟩, rfl⟩ := hx
    refine ⟨_, (pss_one (ps_ret (pe_make MV GIV (hr.mono (by decide)) (by rfl) gV bIV .nil passL (pa_cons (pe_fld (pv 0) rfl) (pa_cons (pe_fld (pv 0) rfl) pa_nil))))), ?_⟩
    refine ⟨_, rfl, a, CS, dx, _, _, rfl, ha, SS.cl, SS.nC, rfl, ?_⟩
    refine ⟨_, rfl, a, CS, dx, _, _, rfl, ha, SS.cl, SS.nB, rfl, fun z d2 hz hd ne => vinit_ok SV hz hd gp fun H' s h => q z H' hz s h⟩
abbrev s_joined : Stmt := top 20
abbrev N_joined : List Str := ["sayings", "total", "saying"]
theorem sc_joined : FnScope N_joined ["sayings"] (defScope s_joined) := ⟨rfl, rfl, rfl, by decide +kernel, rfl, by decide +kernel, by decide +kernel⟩
theorem add_ok {C : Addr} {H : Hp} {Q : VK} {x y : Addr} {c1 b1 c2 b2 : Nat} (h1 : Ver C H x c1 b1) (h2 : Ver C H y c2 b2) (q : NewVer C (addC c1 b1 c2 b2) (b1 ||| b2) Q H) : rOwnB C (fun vs H Q E => sp_add C (vs ++ []) H Q E) E0 (.ref x) (.ref y) H Q := by
  have h1' := h1
  have h2' := h2
  obtain ⟨dx, e1, _⟩ := h1'
  obtain ⟨dy, e2, _⟩ := h2'
  exact ⟨x, dx, _, y, dy, _, rfl, rfl, e1, e2, x, y, c1, b1, c2, b2, rfl, h1, h2, q⟩
theorem ok_joined {CS CV f fN fA fV fE pN : Addr} {fd fdN fdA fdV : FuncData} {mc : Value} (tp : Bool) (F : Fun K "joined" "joined" s_joined f fd) (S2 : VerK K CV fE fA) (gV : mg "Verdicts" = some (.ref CV)) (CR : CRead K CV mc) (CM : CMet K CV mc "none" pN fN) (bN : Binds K fdN ["cls"] [])
    (GN : FnOk P w K mg base CX0 6 fN fdN ["cls"] (sp_none CV)) (bA : Binds K fdA ["self", "other"] []) (GA : FnOk P w K mg base CX0 6 fA fdA ["self", "other"] (sp_add CV)) (D_verdicts_of : Df K mg "verdicts_of" ["saying"] fV fdV) (G_verdicts_of : FnOk P w K mg base CX0 6 fV fdV ["saying"] (sp_verdicts_of CS CV)) :
    FnOk P w K mg base CX0 7 f fd ["sayings"] (sp_joined K tp CS CV) := by
  refine F.ok sc_joined (fun vs H Q E h => ?_) (fun cdv A outer s H vs Q E hr h => ?_)
  · obtain ⟨a, xs, ps, rfl, _⟩ := h
    rfl
  · obtain ⟨a, xs, ps, rfl, hl, he, q⟩ := h
    cases tp with
    | false =>
      have hl : SqL K H a xs := hl
      refine ⟨_, (pss_cons (ps_set (i := 1) sc_joined.nd rfl (Or.inl rfl) (pe_cmeth0 (pe_glob (v := .ref CV) (by rfl) gV rfl) CR CM (GN.raw bN .nil) (hr.mono (by decide)) pass0))
          (pss_cons (ps_for PassesOwn.never rfl (pi_list (pv 0)) (pg_name (i := 2) sc_joined.nd rfl (Or.inl rfl)) (pss_one (ps_set (i := 1) sc_joined.nd rfl (Or.inl rfl) (pe_op (op_ownB S2.sf S2.ad S2.fa (GA.raw bA .nil) (hr.mono (by decide)) pass0) (pv 1) (pe_call G_verdicts_of (hr.mono (by decide)) (by rfl) D_verdicts_of.g D_verdicts_of.kp D_verdicts_of.b .nil pass0 (pa_cons (pv 2) pa_nil))))))
          (pss_one (ps_ret (pv 1))))), ?_⟩
      refine ⟨rfl, rfl, fun v H1 nv s1 hv => ?_⟩
      refine ⟨_, rfl, a, rfl, ⟨_, s1.seq hl⟩, for_list (K := K) (a := a) (xs := xs) (fun i σ H' => Same H H' ∧ ∃ (v : Addr) (u : Option V), σ = [some (.ref a), some (.ref v), u] ∧ H v = none ∧ Ver CV H' v (jC (ps.take i)) (jB (ps.take i))) ⟨s1, v, _, rfl, nv, hv⟩ (fun i σ H' _ h => h.1.seq hl) ?_ ?_⟩
      · rintro i x σ H' hi ⟨s2, v, u, rfl, nv2, hv2⟩
        obtain ⟨p, hp⟩ : ∃ p, ps[i]? = some p := ⟨_, List.getElem?_eq_getElem (by rw [← he.1]; exact (List.getElem?_eq_some_iff.mp hi).1)⟩
        have hx := he.2 i x p hi hp
        refine ⟨_, rfl, _, rfl, x, p, rfl, hx.same s2, fun y H2 ny s3 hy => add_ok (hv2.same s3) hy fun z H3 nz s4 hz => ?_⟩
        have e := j_snoc (ps.take i) p hx.gp
        refine ⟨s2.trans (s3.trans s4), z, _, rfl, (s2.trans s3).free nz, ?_⟩
        rw [List.take_add_one, hp]
        show Ver CV H3 z (jC (ps.take i ++ [p])) (jB (ps.take i ++ [p]))
        rw [← e.1, ← e.2]
        exact hz
      · rintro σ H' ⟨s2, v, u, rfl, nv2, hv2⟩
        rw [he.1, List.take_length] at hv2
        exact ⟨_, rfl, q v H' nv2 s2 hv2⟩
    | true =>
      have hl : SqT K H a xs := hl
      refine ⟨_, (pss_cons (ps_set (i := 1) sc_joined.nd rfl (Or.inl rfl) (pe_cmeth0 (pe_glob (v := .ref CV) (by rfl) gV rfl) CR CM (GN.raw bN .nil) (hr.mono (by decide)) pass0))
          (pss_cons (ps_for PassesOwn.never rfl (pi_tup (pv 0)) (pg_name (i := 2) sc_joined.nd rfl (Or.inl rfl)) (pss_one (ps_set (i := 1) sc_joined.nd rfl (Or.inl rfl) (pe_op (op_ownB S2.sf S2.ad S2.fa (GA.raw bA .nil) (hr.mono (by decide)) pass0) (pv 1) (pe_call G_verdicts_of (hr.mono (by decide)) (by rfl) D_verdicts_of.g D_verdicts_of.kp D_verdicts_of.b .nil pass0 (pa_cons (pv 2) pa_nil))))))
          (pss_one (ps_ret (pv 1))))), ?_⟩
      refine ⟨rfl, rfl, fun v H1 nv s1 hv => ?_⟩
      have tup : ∀ {H' : Hp}, Same H H' → SqT K H' a xs := fun {H'} s => SqT.ext hl s
      refine ⟨_, rfl, a, rfl, ⟨_, tup s1⟩, for_tup (K := K) (a := a) (xs := xs) (fun i σ H' => Same H H' ∧ ∃ (v : Addr) (u : Option V), σ = [some (.ref a), some (.ref v), u] ∧ H v = none ∧ Ver CV H' v (jC (ps.take i)) (jB (ps.take i))) ⟨s1, v, _, rfl, nv, hv⟩ (fun i σ H' _ h => tup h.1) ?_ ?_⟩
      · rintro i x σ H' hi ⟨s2, v, u, rfl, nv2, hv2⟩
        obtain ⟨p, hp⟩ : ∃ p, ps[i]? = some p := ⟨_, List.getElem?_eq_getElem (by rw [← he.1]; exact (List.getElem?_eq_some_iff.mp hi).1)⟩
        have hx := he.2 i x p hi hp
        refine ⟨_, rfl, _, rfl, x, p, rfl, hx.same s2, fun y H2 ny s3 hy => add_ok (hv2.same s3) hy fun z H3 nz s4 hz => ?_⟩
        have e := j_snoc (ps.take i) p hx.gp
        refine ⟨s2.trans (s3.trans s4), z, _, rfl, (s2.trans s3).free nz, ?_⟩
        rw [List.take_add_one, hp]
        show Ver CV H3 z (jC (ps.take i ++ [p])) (jB (ps.take i ++ [p]))
        rw [← e.1, ← e.2]
        exact hz
      · rintro σ H' ⟨s2, v, u, rfl, nv2, hv2⟩
        rw [he.1, List.take_length] at hv2
        exact ⟨_, rfl, q v H' nv2 s2 hv2⟩
end
end My
set_option Elab.async false
set_option maxRecDepth 100000
set_option maxHeartbeats 4000000
namespace My
open PySem L2 ClX
theorem ite_no {c : Prop} [Decidable c] {A B : Prop} (hc : ¬ c) (h : B) : if c then A else B := by rw [if_neg hc]; exact h
theorem ite_yes {c : Prop} [Decidable c] {A B : Prop} (hc : c) (h : A) : if c then A else B := by rw [if_pos hc]; exact h
theorem ite_dn {c : Prop} [Decidable c] {A B : Prop} (hc : ¬ c) (h : B) : if decide c = true then A else B := ite_no (by simpa using hc) h
theorem ite_dy {c : Prop} [Decidable c] {A B : Prop} (hc : c) (h : A) : if decide c = true then A else B := ite_yes (by simpa using hc) h
theorem ite_nd {c : Prop} [Decidable c] {A B : Prop} (hc : ¬ c) (h : A) : if (!decide c) = true then A else B := ite_yes (by simpa using hc) h
theorem within_int (n m : Nat) : decide (V.int (Builtin.bitAnd (n : Int) (Builtin.bitNot (m : Int))) = V.int 0) = decide (n &&& m = n) := by
  rw [PyProof.Rows.bitAnd_not, and_cast]
  refine decide_eq_decide.mpr ⟨fun h => ?_, fun h => ?_⟩
  · injection h with h
    omega
  · rw [h, Int.sub_self]
theorem bit_one (n d : Nat) : decide (V.int (Builtin.bitAnd ((n : Int) / 2 ^ (d : Int).toNat) 1) = V.int 1) = n.testBit d := by
  have e1 : ((n : Int) / 2 ^ (d : Int).toNat) = ((n / 2 ^ d : Nat) : Int) := by
    rw [Int.toNat_natCast, ← PySem.W.kbt_cast]
    rfl
  rw [e1, PyProof.Rows.bitAnd_m1, Nat.testBit_eq_decide_div_mod_eq]
  generalize n / 2 ^ d = k
  have h : ((k : Int) % 2 = 0 ∧ k % 2 = 0) ∨ ((k : Int) % 2 = 1 ∧ k % 2 = 1) := by omega
  rcases h with ⟨h1, h2⟩ | ⟨h1, h2⟩ <;> simp [h1, h2]
theorem bit_zero (n d : Nat) : decide (V.int (Builtin.bitAnd ((n : Int) / 2 ^ (d : Int).toNat) 1) = V.int 0) = !n.testBit d := by
  have e1 : ((n : Int) / 2 ^ (d : Int).toNat) = ((n / 2 ^ d : Nat) : Int) := by
    rw [Int.toNat_natCast, ← PySem.W.kbt_cast]
    rfl
  rw [e1, PyProof.Rows.bitAnd_m1, Nat.testBit_eq_decide_div_mod_eq]
  generalize n / 2 ^ d = k
  have h : ((k : Int) % 2 = 0 ∧ k % 2 = 0) ∨ ((k : Int) % 2 = 1 ∧ k % 2 = 1) := by omega
  rcases h with ⟨h1, h2⟩ | ⟨h1, h2⟩ <;> simp [h1, h2]
theorem pow_cast (d : Nat) : (1 : Int) * 2 ^ (d : Int).toNat = ((2 ^ d : Nat) : Int) := by
  rw [Int.toNat_natCast, Int.one_mul, ← PySem.W.kbt_cast]
/-- the word of a day, the other way about -/
theorem word_conf {p : Pr} (g : GpP p) (d : Nat) : decide (wordOf p d = "confirmed") = p.1.testBit d := by
  have gb := gp_bit g d
  unfold wordOf
  cases h1 : p.1.testBit d <;> cases h2 : p.2.testBit d
  · rfl
  · rfl
  · rfl
  · rw [h1, h2] at gb
    cases gb
theorem word_brok (p : Pr) (d : Nat) : decide (wordOf p d = "broken") = p.2.testBit d := by
  unfold wordOf
  cases h1 : p.1.testBit d <;> cases h2 : p.2.testBit d <;> rfl
/-- a day at which one is not as sharp -/
def bad (p q : Pr) (d : Nat) : Bool := (p.1.testBit d && !q.1.testBit d) || (q.2.testBit d && !p.2.testBit d)
theorem shp_bits {p q : Pr} : shp p q = true ↔ ∀ d, bad p q d = false := by
  unfold shp bad
  rw [Bool.and_eq_true, decide_eq_true_iff, decide_eq_true_iff, sub_iff, sub_iff]
  constructor
  · rintro ⟨h1, h2⟩ d
    have a1 := h1 d
    have a2 := h2 d
    cases e1 : p.1.testBit d <;> cases e2 : q.1.testBit d <;> cases e3 : p.2.testBit d <;> cases e4 : q.2.testBit d <;> simp_all
  · intro h
    refine ⟨fun d hd => ?_, fun d hd => ?_⟩
    · have := h d
      rw [hd] at this
      cases e2 : q.1.testBit d
      · rw [e2] at this; simp at this
      · rfl
    · have := h d
      rw [hd] at this
      cases e2 : p.2.testBit d
      · rw [e2] at this; simp at this
      · rfl
theorem shp_low {p q : Pr} (gp : GpP p) (gq : GpP q) (h : ∀ d, d < 16 → bad p q d = false) : shp p q = true := by
  refine shp_bits.mpr fun d => ?_
  by_cases hd : d < 16
  · exact h d hd
  · unfold bad
    rw [bit_lt gp.2.1 hd, bit_lt gq.2.2 hd]
    rfl
def sp_l_sharper : Sp := fun vs H Q _ => ∃ (x y : V) (p q : Pr), vs = [x, y] ∧ IsPair H x p ∧ IsPair H y q ∧ Q (.bl (shp p q)) H
/-- a drawn pair -/
def sp_l_pair : Sp := fun vs H Q _ => ∃ (b : Addr) (n : Nat), vs = [.ref b, .int n] ∧ Bag H b ∧ n ≤ 16 ∧ ∀ (x : V) (p : Pr) (H' : Hp), IsPair H' x p → Bag H' b → But b H H' → (∀ a, x = .ref a → H a = none) → Q x H'
def sp_l_blunter : Sp := fun vs H Q _ => ∃ (b : Addr) (x : V) (p : Pr), vs = [.ref b, x] ∧ Bag H b ∧ IsPair H x p ∧ (∀ a, x = .ref a → a ≠ b) ∧ ∀ (y : V) (q : Pr) (H' : Hp), IsPair H' y q → shp p q = true → Bag H' b → But b H H' → (∀ a, y = .ref a → H a = none) → Q y H'
section
variable {P : Program} {w : World} {K : PySem.W.Frag} {mg : Str → Option Value} {base : Heap}
abbrev s_within : Stmt := top 2
theorem sc_within : FnScope ["one", "other"] ["one", "other"] (defScope s_within) := ⟨rfl, rfl, rfl, by decide +kernel, rfl, by decide +kernel, by decide +kernel⟩
theorem ok_within {f : Addr} {fd : FuncData} (F : Fun K "within" "within" s_within f fd) : FnOk P w K mg base CX0 2 f fd ["one", "other"] sp_within := by
  refine F.ok sc_within (fun vs H Q E h => ?_) (fun cdv A outer s H vs Q E hr h => ?_)
  · obtain ⟨n, m, rfl, _⟩ := h
    rfl
  · obtain ⟨n, m, rfl, k⟩ := h
    refine ⟨_, (pss_one (ps_ret (pe_cmpR op_eq (pe_op op_and (pv 0) (pe_un un_inv (pv 1))) pe_int (nomark _)))), ?_⟩
    refine ⟨_, rfl, _, rfl, _, rfl, _, _, rfl, rfl, rfl, ?_⟩
    rw [← within_int] at k
    exact k
abbrev s_sharper : Stmt := top 21
theorem sc_sharper : FnScope ["one", "other"] ["one", "other"] (defScope s_sharper) := ⟨rfl, rfl, rfl, by decide +kernel, rfl, by decide +kernel, by decide +kernel⟩
theorem ok_sharper {CV f fW : Addr} {fd fdW : FuncData} (F : Fun K "sharper" "sharper" s_sharper f fd) (S : VerC K CV) (D_within : Df K mg "within" ["one", "other"] fW fdW) (G_within : FnOk P w K mg base CX0 2 fW fdW ["one", "other"] sp_within) :
    FnOk P w K mg base CX0 3 f fd ["one", "other"] (sp_sharper CV) := by
  refine F.ok sc_sharper (fun vs H Q E h => ?_) (fun cdv A outer s H vs Q E hr h => ?_)
  · obtain ⟨x, y, p, q, rfl, _⟩ := h
    rfl
  · obtain ⟨x, y, p, q, rfl, ⟨a, rfl, dx, ha, _⟩, ⟨b, rfl, dy, hb, _⟩, k⟩ := h
    refine ⟨_, (pss_one (ps_ret (pe_and (pe_call G_within (hr.mono (by decide)) (by rfl) D_within.g D_within.kp D_within.b .nil pass0 (pa_cons (pe_fld (pv 0) rfl) (pa_cons (pe_fld (pv 1) rfl) pa_nil))) (pe_one (pe_call G_within (hr.mono (by decide)) (by rfl) D_within.g D_within.kp D_within.b .nil pass0 (pa_cons (pe_fld (pv 1) rfl) (pa_cons (pe_fld (pv 0) rfl) pa_nil))))))), ?_⟩
    refine ⟨_, rfl, a, CV, dx, _, _, rfl, ha, S.cl, S.nC, rfl, _, rfl, b, CV, dy, _, _, rfl, hb, S.cl, S.nC, rfl, _, _, rfl, _, rfl, ?_⟩
    unfold shp at k
    refine ite2 (fun z => ?_) (fun z => ?_)
    · refine ⟨_, rfl, b, CV, dy, _, _, rfl, hb, S.cl, S.nB, rfl, _, rfl, a, CV, dx, _, _, rfl, ha, S.cl, S.nB, rfl, _, _, rfl, ?_⟩
      rw [z, Bool.true_and] at k
      exact k
    · rw [Bool.eq_false_iff.mpr z, Bool.false_and] at k
      exact k
abbrev s_l_told : Stmt := top 30
theorem sc_l_told : FnScope ["_law_verdicts"] ["_law_verdicts"] (defScope s_l_told) := ⟨rfl, rfl, rfl, by decide +kernel, rfl, by decide +kernel, by decide +kernel⟩
theorem ok_l_told {CV f : Addr} {fd : FuncData} (F : Fun K "_law_told" "_law_told" s_l_told f fd) (S : VerC K CV) : FnOk P w K mg base CX0 2 f fd ["_law_verdicts"] (sp_l_told CV) := by
  refine F.ok sc_l_told (fun vs H Q E h => ?_) (fun cdv A outer s H vs Q E hr h => ?_)
  · obtain ⟨x, p, rfl, _⟩ := h
    rfl
  · obtain ⟨x, p, rfl, ⟨a, rfl, dx, ha, _⟩, k⟩ := h
    refine ⟨_, (pss_one (ps_ret (pe_tup (pa_cons (pe_fld (pv 0) rfl) (pa_cons (pe_fld (pv 0) rfl) pa_nil))))), ?_⟩
    exact ⟨_, rfl, a, CV, dx, _, _, rfl, ha, S.cl, S.nC, rfl, _, rfl, a, CV, dx, _, _, rfl, ha, S.cl, S.nB, rfl, by show 2 ≤ sizeLine; decide, fun t ht => k t ht⟩
abbrev s_l_word : Stmt := top 27
theorem sc_l_word : FnScope ["_law_pair_here", "_law_day"] ["_law_pair_here", "_law_day"] (defScope s_l_word) := ⟨rfl, rfl, rfl, by decide +kernel, rfl, by decide +kernel, by decide +kernel⟩
theorem ok_l_word {f : Addr} {fd : FuncData} (F : Fun K "_law_word" "_law_word" s_l_word f fd) : FnOk P w K mg base CX0 2 f fd ["_law_pair_here", "_law_day"] sp_l_word := by
  refine F.ok sc_l_word (fun vs H Q E h => ?_) (fun cdv A outer s H vs Q E hr h => ?_)
  · obtain ⟨x, p, d, rfl, _⟩ := h
    rfl
  · obtain ⟨x, p, d, rfl, ⟨a, rfl, ha, _⟩, k⟩ := h
    refine ⟨_, (pss_cons (ps_if (pt_cmpR op_eq (pe_op op_and (pe_op op_shr (pe_ix ix_tup (pv 0) pe_int (fun _ _ => rfl)) (pv 1)) pe_int) pe_int (nomark _)) (pss_one (ps_ret pe_str)) pss_nil)
        (pss_one (ps_ret (pe_ifExp (pt_cmpR op_eq (pe_op op_and (pe_op op_shr (pe_ix ix_tup (pv 0) pe_int (fun _ _ => rfl)) (pv 1)) pe_int) pe_int (nomark _)) pe_str pe_str)))), ?_⟩
    unfold wordOf at k
    refine ⟨_, rfl, _, _, _, _, rfl, rfl, SqT.of ha, rfl, _, rfl, _, _, rfl, rfl, (by show (0 : Int) ≤ (d : Int); omega), _, _, rfl, rfl, rfl, _, rfl, ite2 (fun z => ?_) (fun z => ?_)⟩
    · rw [if_pos ((bit_one p.2 d).symm.trans z)] at k
      exact k
    · rw [if_neg (fun y => z ((bit_one p.2 d).trans y))] at k
      refine ⟨_, rfl, _, _, _, _, rfl, rfl, SqT.of ha, rfl, _, rfl, _, _, rfl, rfl, (by show (0 : Int) ≤ (d : Int); omega), _, _, rfl, rfl, rfl, _, rfl, ite2 (fun z => ?_) (fun z => ?_)⟩
      · rw [if_pos ((bit_one p.1 d).symm.trans z)] at k
        exact k
      · rw [if_neg (fun y => z ((bit_one p.1 d).trans y))] at k
        exact k
abbrev s_l_sharper : Stmt := top 29
abbrev N_l_sharper : List Str := ["_law_one", "_law_other", "_law_day", "_law_first", "_law_second"]
theorem sc_l_sharper : FnScope N_l_sharper ["_law_one", "_law_other"] (defScope s_l_sharper) := ⟨rfl, rfl, rfl, by decide +kernel, rfl, by decide +kernel, by decide +kernel⟩
structure BtR (mg : Str → Option Value) : Prop where
  range : mg "range" = none
theorem dec_str (s t : Str) : decide (V.str s = V.str t) = decide (s = t) := decide_eq_decide.mpr ⟨fun h => by injection h, fun h => by rw [h]⟩
theorem ok_l_sharper {f fW : Addr} {fd fdW : FuncData} (F : Fun K "_law_sharper" "_law_sharper" s_l_sharper f fd) (T : BtR mg) (D_l_word : Df K mg "_law_word" ["_law_pair_here", "_law_day"] fW fdW) (G_l_word : FnOk P w K mg base CX0 2 fW fdW ["_law_pair_here", "_law_day"] sp_l_word) :
    FnOk P w K mg base CX0 3 f fd ["_law_one", "_law_other"] sp_l_sharper := by
  refine F.ok sc_l_sharper (fun vs H Q E h => ?_) (fun cdv A outer s H vs Q E hr h => ?_)
  · obtain ⟨x, y, p, q, rfl, _⟩ := h
    rfl
  · obtain ⟨x, y, p, q, rfl, hx, hy, k⟩ := h
    have gp : GpP p := hx.elim fun _ z => z.2.2
    have gq : GpP q := hy.elim fun _ z => z.2.2
    refine ⟨_, (pss_cons (ps_for PassesOwn.never rfl (pi_range1 (by rfl) T.range (pa_cons pe_int pa_nil)) (pg_name (i := 2) sc_l_sharper.nd rfl (Or.inl rfl)) (pss_cons (ps_par (i := 3) (j := 4) (by rfl) sc_l_sharper.nd rfl rfl (by decide) rfl rfl (pa_cons (pe_call G_l_word (hr.mono (by decide)) (by rfl) D_l_word.g D_l_word.kp D_l_word.b .nil pass0 (pa_cons (pv 0) (pa_cons (pv 2) pa_nil))) (pa_cons (pe_call G_l_word (hr.mono (by decide)) (by rfl) D_l_word.g D_l_word.kp D_l_word.b .nil pass0 (pa_cons (pv 1) (pa_cons (pv 2) pa_nil))) pa_nil)) (by rfl))
        (pss_cons (ps_if (PW.pt (pw_and (pt_cmpR op_eq (pv 3) pe_str (nomark _)) (pw_and1 (pt_cmpR op_ne (pv 4) pe_str (nomark _))))) (pss_one (ps_ret pe_bl)) pss_nil)
        (pss_one (ps_if (PW.pt (pw_and (pt_cmpR op_eq (pv 4) pe_str (nomark _)) (pw_and1 (pt_cmpR op_ne (pv 3) pe_str (nomark _))))) (pss_one (ps_ret pe_bl)) pss_nil)))))
        (pss_one (ps_ret pe_bl))), ?_⟩
    refine ⟨16, rfl, by decide, by decide, for_range (lo := 0) (n := 16) (fun i σ H' => H' = H ∧ (∀ d, d < i → bad p q d = false) ∧ ∃ u2 u3 u4, σ = [some x, some y, u2, u3, u4]) ⟨rfl, fun d hd => absurd hd (Nat.not_lt_zero d), _, _, _, rfl⟩ ?_ ?_⟩
    · rintro i σ H' hi ⟨rfl, hb, u2, u3, u4, rfl⟩
      have no : bad p q i = true → Q (.bl false) H' := fun z => by
        have e : shp p q = false := by
          cases e : shp p q with
          | false => rfl
          | true =>
            rw [shp_bits.mp e i] at z
            cases z
        rw [e] at k
        exact k
      refine ⟨_, rfl, _, rfl, x, p, i, by rw [Int.zero_add]; rfl, hx, _, rfl, _, rfl, y, q, i, by rw [Int.zero_add]; rfl, hy, _, _, rfl, ?_⟩
      have cp := word_conf gp i
      have cq := word_conf gq i
      have bp := word_brok p i
      have bq := word_brok q i
      refine ⟨_, rfl, rfl, _, rfl, ?_⟩
      rw [dec_str, cp]
      have ext : bad p q i = false → ∀ d, d < i + 1 → bad p q d = false := fun z d hd => by
        by_cases e : d = i
        · rw [e]; exact z
        · exact hb d (by omega)
      cases h1 : p.1.testBit i
      · refine iteF ?_
        refine ⟨_, rfl, rfl, _, rfl, ?_⟩
        rw [dec_str, bq]
        cases h3 : q.2.testBit i
        · exact iteF ⟨rfl, ext (by unfold bad; simp [h1,  h3]), _, _, _, rfl⟩
        · refine iteT ⟨_, rfl, rfl, _, rfl, ?_⟩
          rw [dec_str, bp]
          cases h4 : p.2.testBit i
          · exact iteT (no (by unfold bad; simp [h3, h4]))
          · exact iteF ⟨rfl, ext (by unfold bad; simp [h1,  h4]), _, _, _, rfl⟩
      · refine iteT ⟨_, rfl, rfl, _, rfl, ?_⟩
        rw [dec_str, cq]
        cases h2 : q.1.testBit i
        · exact iteT (no (by unfold bad; simp [h1, h2]))
        · refine iteF ?_
          refine ⟨_, rfl, rfl, _, rfl, ?_⟩
          rw [dec_str, bq]
          cases h3 : q.2.testBit i
          · exact iteF ⟨rfl, ext (by unfold bad; simp [h1, h2, h3]), _, _, _, rfl⟩
          · refine iteT ⟨_, rfl, rfl, _, rfl, ?_⟩
            rw [dec_str, bp]
            cases h4 : p.2.testBit i
            · exact iteT (no (by unfold bad; simp [h3, h4]))
            · exact iteF ⟨rfl, ext (by unfold bad; simp [h1, h2, h4]), _, _, _, rfl⟩
    · rintro σ H' ⟨rfl, hb, u2, u3, u4, rfl⟩
      rw [shp_low gp gq hb] at k
      exact k
end
end My
set_option Elab.async false
set_option maxRecDepth 100000
set_option maxHeartbeats 4000000
namespace My
open PySem L2 ClX
theorem and_pow {b i : Nat} (h : b.testBit i = true) : b &&& 2 ^ i = 2 ^ i := by
  refine Nat.eq_of_testBit_eq fun j => ?_
  rw [Nat.testBit_and, bit_pow]
  by_cases e : i = j
  · subst e; rw [h]; rfl
  · rw [decide_eq_false e, Bool.and_false]
theorem sub_cast {b i : Nat} (h : b.testBit i = true) : (b : Int) - ((2 ^ i : Nat) : Int) = ((brk b (2 ^ i) : Nat) : Int) := by
  rw [brk_cast, and_pow h]
theorem add_cast {c i : Nat} (h : c.testBit i = false) : (c : Int) + ((2 ^ i : Nat) : Int) = ((c ||| 2 ^ i : Nat) : Int) := by
  rw [← add_bit h]
  exact (Int.natCast_add c (2 ^ i)).symm
theorem or_bit (c i j : Nat) : (c ||| 2 ^ i).testBit j = (c.testBit j || decide (i = j)) := by rw [Nat.testBit_or, bit_pow]
theorem sb_bit {b i j : Nat} (hb : b < 65536) : (brk b (2 ^ i)).testBit j = (b.testBit j && !decide (i = j)) := by rw [brk_bit hb, bit_pow]
theorem pow_lt {i : Nat} (hi : i < 16) : 2 ^ i < 65536 := Nat.pow_lt_pow_right (by decide) hi
theorem gp_of {c b : Nat} (h : ∀ j, (c.testBit j && b.testBit j) = false) (hc : c < 65536) (hb : b < 65536) : Gp c b := ⟨Nat.eq_of_testBit_eq fun j => by rw [Nat.testBit_and, h j, Nat.zero_testBit], hc, hb⟩
theorem But.free {b t : Addr} {H H' : Hp} (k : But b H H') (h : H' t = none) (n : t ≠ b) : H t = none := by
  cases q : H t with
  | none => rfl
  | some o =>
    rw [k t o n q] at h
    cases h
theorem lt_of_bits {c : Nat} (h : ∀ j, 16 ≤ j → c.testBit j = false) : c < 65536 := Nat.lt_pow_two_of_testBit (n := 16) _ h
section
variable {P : Program} {w : World} {K : PySem.W.Frag} {mg : Str → Option Value} {base : Heap}
abbrev s_l_pair : Stmt := top 26
abbrev N_l_pair : List Str := ["_law_bag_here", "_law_days", "_law_confirm", "_law_broken", "_law_lean", "_law_day", "_law_kind"]
theorem sc_l_pair : FnScope N_l_pair ["_law_bag_here", "_law_days"] (defScope s_l_pair) := ⟨rfl, rfl, rfl, by decide +kernel, rfl, by decide +kernel, by decide +kernel⟩
theorem ok_l_pair {f fT fO : Addr} {fd fdT fdO : FuncData} (F : Fun K "_law_pair" "_law_pair" s_l_pair f fd) (T : BtR mg) (D_l_take : Df K mg "_law_take" ["_law_bag_here", "_law_many"] fT fdT) (G_l_take : FnOk P w K mg base CX0 2 fT fdT ["_law_bag_here", "_law_many"] sp_l_take)
    (D_l_of : Df K mg "_law_of" ["_law_bag_here", "_law_some"] fO fdO) (G_l_of : FnOk P w K mg base CX0 3 fO fdO ["_law_bag_here", "_law_some"] sp_l_of) : FnOk P w K mg base CX0 4 f fd ["_law_bag_here", "_law_days"] sp_l_pair := by
  refine F.ok sc_l_pair (fun vs H Q E h => ?_) (fun cdv A outer s H vs Q E hr h => ?_)
  · obtain ⟨b, n, rfl, _⟩ := h
    rfl
  · obtain ⟨b, n, rfl, hB, hn, k⟩ := h
    refine ⟨_, (pss_cons (ps_asg (pe_tup (pa_cons pe_int (pa_cons pe_int pa_nil))) (pg_tup rfl (pgs_cons (pg_name (i := 2) sc_l_pair.nd rfl (Or.inl rfl)) (pgs_cons (pg_name (i := 3) sc_l_pair.nd rfl (Or.inl rfl)) pgs_nil))))
        (pss_cons (ps_set (i := 4) sc_l_pair.nd rfl (Or.inl rfl) (pe_call G_l_of (hr.mono (by decide)) (by rfl) D_l_of.g D_l_of.kp D_l_of.b .nil pass0 (pa_cons (pv 0) (pa_cons (pe_lst (pa_cons pe_int (pa_cons pe_int (pa_cons pe_int (pa_cons pe_int pa_nil))))) pa_nil))))
        (pss_cons (ps_for PassesOwn.never rfl (pi_range1 (by rfl) T.range (pa_cons (pv 1) pa_nil)) (pg_name (i := 5) sc_l_pair.nd rfl (Or.inl rfl)) (pss_cons (ps_set (i := 6) sc_l_pair.nd rfl (Or.inl rfl) (pe_call G_l_take (hr.mono (by decide)) (by rfl) D_l_take.g D_l_take.kp D_l_take.b .nil pass0 (pa_cons (pv 0) (pa_cons (pv 4) pa_nil))))
        (pss_cons (ps_set (i := 2) sc_l_pair.nd rfl (Or.inl rfl) (pe_op op_add (pv 2) (pe_ifExp (pt_cmpR op_eq (pv 6) pe_int (nomark _)) (pe_op op_shl pe_int (pv 5)) pe_int)))
        (pss_one (ps_set (i := 3) sc_l_pair.nd rfl (Or.inl rfl) (pe_op op_add (pv 3) (pe_ifExp (pt_cmpR op_eq (pv 6) pe_int (nomark _)) (pe_op op_shl pe_int (pv 5)) pe_int)))))))
        (pss_one (ps_ret (pe_tup (pa_cons (pv 2) (pa_cons (pv 3) pa_nil)))))))), ?_⟩
    refine ⟨by show 2 ≤ sizeLine; decide, fun T0 hT0 => ⟨T0, _, rfl, SqT.of upd_same, rfl, _, _, rfl, _, _, rfl, rfl, ?_⟩⟩
    have g0 := same_new (o := .tup [V.int 0, V.int 0]) hT0
    have hB := hB.same g0
    refine ⟨_, rfl, by show 4 ≤ sizeLine; decide, fun L hL => ?_⟩
    have g1 := same_new (o := .lst [V.int 3, V.int 3, V.int 4, V.int 2]) hL
    refine ⟨b, L, _, rfl, hB.same g1, hB.ne hL, upd_same, by show 0 < 4; decide, by show 4 ≤ 100000; decide, fun j v H1 hj hB1 k1 => ?_⟩
    have kk := (But.of (g0.trans g1)).trans k1
    obtain ⟨m, rfl, m0, m1⟩ : ∃ m : Int, v = .int m ∧ 0 < m ∧ m < 5 := by
      have hm := List.mem_of_getElem? hj
      simp only [List.mem_cons, List.not_mem_nil, or_false] at hm
      rcases hm with rfl | rfl | rfl | rfl
      · exact ⟨3, rfl, by decide, by decide⟩
      · exact ⟨3, rfl, by decide, by decide⟩
      · exact ⟨4, rfl, by decide, by decide⟩
      · exact ⟨2, rfl, by decide, by decide⟩
    clear hj k1 hL g1
    refine ⟨_, rfl, _, rfl, by omega, by omega, ?_⟩
    rw [Int.toNat_natCast]
    refine for_range (lo := 0) (n := n) (fun i σ H' => Bag H' b ∧ But b H H' ∧ ∃ (c e : Nat) (u5 u6 : Option V), σ = [some (.ref b), some (.int (n : Int)), some (.int (c : Int)), some (.int (e : Int)), some (.int m), u5, u6] ∧ (∀ j, i ≤ j → c.testBit j = false ∧ e.testBit j = false) ∧ (∀ j, (c.testBit j && e.testBit j) = false))
      ⟨hB1, kk, 0, 0, _, _, rfl, fun j _ => ⟨Nat.zero_testBit j, Nat.zero_testBit j⟩, fun j => by rw [Nat.zero_testBit]; rfl⟩ ?_ ?_
    · rintro i σ H2 hi ⟨hB2, k2, c, e, u5, u6, rfl, hz, hd⟩
      have hi16 : i < 16 := by omega
      refine ⟨_, rfl, _, rfl, b, m, rfl, hB2, m0, Int.lt_of_lt_of_le m1 (by decide +kernel), fun r H3 r0 r1 hB3 k3 => ?_⟩
      rw [Int.zero_add]
      have kk := k2.trans k3
      try dsimp only
      refine asg_of (R := fun v H' => v = .int ((if r = 0 then c ||| 2 ^ i else c : Nat) : Int) ∧ H' = H3) (fun Q' q' => ?_) fun v H' ⟨ev, eH⟩ => ?_
      · refine ⟨_, rfl, _, rfl, rfl, _, rfl, ?_⟩
        by_cases e0 : r = 0
        · refine ite_dy (congrArg V.int e0) ⟨_, rfl, _, _, rfl, rfl, ⟨by omega, by omega, by decide⟩, _, _, rfl, rfl, q' _ _ ⟨?_, rfl⟩⟩
          rw [if_pos e0, ← add_cast (hz i (Nat.le_refl i)).1, ← pow_cast]
        · refine ite_dn (fun z => e0 (by injection z)) ⟨_, _, rfl, rfl, q' _ _ ⟨?_, rfl⟩⟩
          rw [if_neg e0]
          exact congrArg V.int (Int.add_zero _)
      subst ev eH
      try dsimp only
      refine ⟨_, rfl, _, rfl, rfl, _, rfl, ?_⟩
      have fin : ∀ e' : Nat, (e' = if r = 1 then e ||| 2 ^ i else e) → Bag H' b ∧ But b H H' ∧ ∃ (c2 e2 : Nat) (u5 u6 : Option V), [some (V.ref b), some (.int (n : Int)), some (.int ((if r = 0 then c ||| 2 ^ i else c : Nat) : Int)), some (.int (e' : Int)), some (.int m), some (.int (i : Int)), some (.int r)] = [some (.ref b), some (.int (n : Int)), some (.int (c2 : Int)), some (.int (e2 : Int)), some (.int m), u5, u6] ∧ (∀ j, i + 1 ≤ j → c2.testBit j = false ∧ e2.testBit j = false) ∧ (∀ j, (c2.testBit j && e2.testBit j) = false) := fun e' he => by
        subst he
        refine ⟨hB3, kk, (if r = 0 then c ||| 2 ^ i else c), (if r = 1 then e ||| 2 ^ i else e), _, _, rfl, fun j hj => ?_, fun j => ?_⟩
        · have h1 := hz j (by omega)
          have h2 : ¬ i = j := by omega
          constructor
          · split
            · rw [or_bit, h1.1, decide_eq_false h2]; rfl
            · exact h1.1
          · split
            · rw [or_bit, h1.2, decide_eq_false h2]; rfl
            · exact h1.2
        · have h1 := hd j
          have h2 := hz i (Nat.le_refl i)
          by_cases e0 : r = 0
          · rw [if_pos e0, if_neg (by omega), or_bit]
            by_cases e2 : i = j
            · subst e2; rw [h2.2, Bool.and_false]
            · rw [decide_eq_false e2, Bool.or_false]; exact h1
          · rw [if_neg e0]
            split
            · rw [or_bit]
              by_cases e2 : i = j
              · subst e2; rw [h2.1]; rfl
              · rw [decide_eq_false e2, Bool.or_false]; exact h1
            · exact h1
      by_cases e1 : r = 1
      · refine ite_dy (congrArg V.int e1) ⟨_, rfl, _, _, rfl, rfl, ⟨by omega, by omega, by decide⟩, _, _, rfl, rfl, ?_⟩
        have z := fin (e ||| 2 ^ i) (by rw [if_pos e1])
        rw [← add_cast (hz i (Nat.le_refl i)).2, ← pow_cast] at z
        obtain ⟨z1, z2, c', e', u5', u6', zz, z3, z4⟩ := z
        exact ⟨z1, z2, c', e', u5', u6', zz, z3, z4⟩
      · refine ite_dn (fun z => e1 (by injection z)) ⟨_, _, rfl, rfl, ?_⟩
        have z := fin e (by rw [if_neg e1])
        have e0 : (e : Int) = (e : Int) + 0 := (Int.add_zero _).symm
        rw [e0] at z
        obtain ⟨z1, z2, c', e', u5', u6', zz, z3, z4⟩ := z
        exact ⟨z1, z2, c', e', u5', u6', zz, z3, z4⟩
    · rintro σ H2 ⟨hB2, k2, c, e, u5, u6, rfl, hz, hd⟩
      have gp : Gp c e := gp_of hd (lt_of_bits fun j hj => (hz j (by omega)).1) (lt_of_bits fun j hj => (hz j (by omega)).2)
      refine ⟨_, rfl, _, rfl, by show 2 ≤ sizeLine; decide, fun t ht => k (.ref t) (c, e) _ ⟨t, rfl, upd_same, gp⟩ (hB2.same (same_new ht)) (k2.trans (But.of (same_new ht))) fun a ea => ?_⟩
      injection ea with ea
      subst ea
      exact But.free k2 ht (hB2.ne ht)
end
end My
set_option Elab.async false
set_option maxRecDepth 100000
set_option maxHeartbeats 4000000
namespace My
open PySem L2 ClX
section
variable {P : Program} {w : World} {K : PySem.W.Frag} {mg : Str → Option Value} {base : Heap}
abbrev s_l_blunter : Stmt := top 31
abbrev N_l_blunter : List Str := ["_law_bag_here", "_law_pair_here", "_law_confirm", "_law_broken", "_law_day", "_law_turn"]
theorem sc_l_blunter : FnScope N_l_blunter ["_law_bag_here", "_law_pair_here"] (defScope s_l_blunter) := ⟨rfl, rfl, rfl, by decide +kernel, rfl, by decide +kernel, by decide +kernel⟩
theorem ok_l_blunter {f fT : Addr} {fd fdT : FuncData} (F : Fun K "_law_blunter" "_law_blunter" s_l_blunter f fd) (T : BtR mg) (D_l_take : Df K mg "_law_take" ["_law_bag_here", "_law_many"] fT fdT) (G_l_take : FnOk P w K mg base CX0 2 fT fdT ["_law_bag_here", "_law_many"] sp_l_take) :
    FnOk P w K mg base CX0 3 f fd ["_law_bag_here", "_law_pair_here"] sp_l_blunter := by
  refine F.ok sc_l_blunter (fun vs H Q E h => ?_) (fun cdv A outer s H vs Q E hr h => ?_)
  · obtain ⟨b, x, p, rfl, _⟩ := h
    rfl
  · obtain ⟨b, x, p, rfl, hB, ⟨a, rfl, ha, gp⟩, hn, k⟩ := h
    have na : a ≠ b := hn a rfl
    refine ⟨_, (pss_cons (ps_asg (pv 1) (pg_tup rfl (pgs_cons (pg_name (i := 2) sc_l_blunter.nd rfl (Or.inl rfl)) (pgs_cons (pg_name (i := 3) sc_l_blunter.nd rfl (Or.inl rfl)) pgs_nil))))
        (pss_cons (ps_for PassesOwn.never rfl (pi_range1 (by rfl) T.range (pa_cons pe_int pa_nil)) (pg_name (i := 4) sc_l_blunter.nd rfl (Or.inl rfl)) (pss_cons (ps_set (i := 5) sc_l_blunter.nd rfl (Or.inl rfl) (pe_call G_l_take (hr.mono (by decide)) (by rfl) D_l_take.g D_l_take.kp D_l_take.b .nil pass0 (pa_cons (pv 0) (pa_cons pe_int pa_nil))))
        (pss_one (ps_if (PW.pt (pw_and (pt_cmpR op_eq (pe_op op_and (pe_op op_shr (pv 2) (pv 4)) pe_int) pe_int (nomark _)) (pw_and1 (pt_cmpR op_gt (pv 5) pe_int (nomark _))))) (pss_one (ps_if (PW.pt (pw_and (pt_cmpR op_eq (pe_op op_and (pe_op op_shr (pv 3) (pv 4)) pe_int) pe_int (nomark _)) (pw_and1 (pt_cmpR op_eq (pv 5) pe_int (nomark _))))) (pss_one (ps_set (i := 3) sc_l_blunter.nd rfl (Or.inl rfl) (pe_op op_sub (pv 3) (pe_op op_shl pe_int (pv 4))))) (pss_one (ps_if (pt_cmpR op_eq (pe_op op_and (pe_op op_shr (pv 3) (pv 4)) pe_int) pe_int (nomark _)) (pss_cons (ps_set (i := 3) sc_l_blunter.nd rfl (Or.inl rfl) (pe_op op_sub (pv 3) (pe_op op_shl pe_int (pv 4))))
        (pss_one (ps_set (i := 2) sc_l_blunter.nd rfl (Or.inl rfl) (pe_op op_add (pv 2) (pe_op op_shl pe_int (pv 4)))))) pss_nil)))) pss_nil))))
        (pss_one (ps_ret (pe_tup (pa_cons (pv 2) (pa_cons (pv 3) pa_nil))))))), ?_⟩
    refine ⟨_, rfl, a, _, rfl, SqT.of ha, rfl, _, _, rfl, _, _, rfl, rfl, ?_⟩
    refine ⟨16, rfl, by decide, by decide, for_range (lo := 0) (n := 16) (fun i σ H' => Bag H' b ∧ But b H H' ∧ ∃ (c e : Nat) (u4 u5 : Option V), σ = [some (.ref b), some (.ref a), some (.int (c : Int)), some (.int (e : Int)), u4, u5] ∧ Gp c e ∧ shp p (c, e) = true)
      ⟨hB, But.refl b H, p.1, p.2, _, _, rfl, gp, shp_bits.mpr fun d => by unfold bad; cases p.1.testBit d <;> cases p.2.testBit d <;> rfl⟩ ?_ ?_⟩
    · rintro i σ H1 hi ⟨hB1, k1, c, e, u4, u5, rfl, g, sh⟩
      have shb := shp_bits.mp sh
      refine ⟨_, rfl, b, 3, rfl, hB1, by decide, by decide, fun r H2 r0 r1 hB2 k2 => ?_⟩
      rw [Int.zero_add]
      have kk := k1.trans k2
      have hc : c < 65536 := g.2.1
      have he : e < 65536 := g.2.2
      refine ⟨_, rfl, _, rfl, _, _, rfl, rfl, (by show (0 : Int) ≤ (i : Int); omega), _, _, rfl, rfl, rfl, _, rfl, ?_⟩
      have z0 := bit_zero c i
      have z1 := bit_one e i
      cases hci : c.testBit i with
      | true =>
        rw [hci] at z0
        refine ite2 (fun z => ?_) (fun _ => ?_)
        · have := z.symm.trans z0
          cases this
        · exact ⟨hB2, kk, c, e, _, _, rfl, g, sh⟩
      | false =>
        rw [hci] at z0
        refine ite2 (fun _ => ?_) (fun z => ?_)
        rotate_left
        · exact (z z0).elim
        refine ⟨_, rfl, _, _, rfl, rfl, _, rfl, ite2 (fun _ => ?_) (fun _ => ?_)⟩
        rotate_left
        · exact ⟨hB2, kk, c, e, _, _, rfl, g, sh⟩
        refine ⟨_, rfl, _, rfl, _, _, rfl, rfl, (by show (0 : Int) ≤ (i : Int); omega), _, _, rfl, rfl, rfl, _, rfl, ?_⟩
        cases hei : e.testBit i with
        | false =>
          rw [hei] at z1
          refine ite2 (fun z => ?_) (fun _ => ?_)
          · have := z.symm.trans z1
            cases this
          refine ⟨_, rfl, _, rfl, _, _, rfl, rfl, (by show (0 : Int) ≤ (i : Int); omega), _, _, rfl, rfl, rfl, _, rfl, ?_⟩
          refine ite2 (fun z => ?_) (fun _ => ?_)
          · have := z.symm.trans z1
            cases this
          exact ⟨hB2, kk, c, e, _, _, rfl, g, sh⟩
        | true =>
          rw [hei] at z1
          have e1 : (e : Int) - 1 * 2 ^ (i : Int).toNat = ((brk e (2 ^ i) : Nat) : Int) := by rw [pow_cast, sub_cast hei]
          have e2 : (c : Int) + 1 * 2 ^ (i : Int).toNat = ((c ||| 2 ^ i : Nat) : Int) := by rw [pow_cast, add_cast hci]
          have ge : brk e (2 ^ i) < 65536 := Nat.lt_of_le_of_lt (brk_le _ _) he
          have gc : c ||| 2 ^ i < 65536 := or_lt hc (pow_lt hi)
          have g1 : Gp c (brk e (2 ^ i)) := gp_of (fun j => by
            rw [sb_bit he]
            have := gp_bit g j
            cases h1 : c.testBit j <;> cases h2 : e.testBit j <;> simp_all) hc ge
          have g2 : Gp (c ||| 2 ^ i) (brk e (2 ^ i)) := gp_of (fun j => by
            rw [sb_bit he, or_bit]
            have := gp_bit g j
            by_cases h : i = j
            · simp [h]
            · rw [decide_eq_false h]
              cases h1 : c.testBit j <;> cases h2 : e.testBit j <;> simp_all) gc ge
          have s1 : shp p (c, brk e (2 ^ i)) = true := shp_bits.mpr fun d => by
            have := shb d
            unfold bad at this ⊢
            show (p.1.testBit d && !c.testBit d || ((brk e (2 ^ i)).testBit d && !p.2.testBit d)) = false
            rw [sb_bit he]
            cases h1 : p.1.testBit d <;> cases h2 : c.testBit d <;> cases h3 : e.testBit d <;> cases h4 : p.2.testBit d <;> simp_all
          have s2 : shp p (c ||| 2 ^ i, brk e (2 ^ i)) = true := shp_bits.mpr fun d => by
            have := shb d
            unfold bad at this ⊢
            show (p.1.testBit d && !(c ||| 2 ^ i).testBit d || ((brk e (2 ^ i)).testBit d && !p.2.testBit d)) = false
            rw [sb_bit he, or_bit]
            cases h1 : p.1.testBit d <;> cases h2 : c.testBit d <;> cases h3 : e.testBit d <;> cases h4 : p.2.testBit d <;> simp_all
          refine ite2 (fun _ => ?_) (fun z => ?_)
          rotate_left
          · exact (z z1).elim
          refine ⟨_, rfl, rfl, _, rfl, ite2 (fun _ => ?_) (fun _ => ?_)⟩
          · refine ⟨_, rfl, _, rfl, _, _, rfl, rfl, ⟨by omega, by omega, by decide⟩, _, _, rfl, rfl, hB2, kk, c, brk e (2 ^ i), some (.int (i : Int)), some (.int r), ?_, g1, s1⟩
            rw [← e1]
            rfl
          · refine ⟨_, rfl, _, rfl, _, _, rfl, rfl, (by show (0 : Int) ≤ (i : Int); omega), _, _, rfl, rfl, rfl, _, rfl, ite2 (fun _ => ?_) (fun z => ?_)⟩
            rotate_left
            · exact (z z1).elim
            refine ⟨_, rfl, _, rfl, _, _, rfl, rfl, ⟨by omega, by omega, by decide⟩, _, _, rfl, rfl, ?_⟩
            refine ⟨_, rfl, _, rfl, _, _, rfl, rfl, ⟨by omega, by omega, by decide⟩, _, _, rfl, rfl, hB2, kk, c ||| 2 ^ i, brk e (2 ^ i), some (.int (i : Int)), some (.int r), ?_, g2, s2⟩
            rw [← e1, ← e2]
            rfl
    · rintro σ H2 ⟨hB2, k2, c, e, u4, u5, rfl, g, sh⟩
      refine ⟨_, rfl, _, rfl, by show 2 ≤ sizeLine; decide, fun t ht => k (.ref t) (c, e) _ ⟨t, rfl, upd_same, g⟩ sh (hB2.same (same_new ht)) (k2.trans (But.of (same_new ht))) fun a' ea => ?_⟩
      injection ea with ea
      subst ea
      exact But.free k2 ht (hB2.ne ht)
end
end My
set_option Elab.async false
set_option maxRecDepth 100000
set_option maxHeartbeats 4000000
namespace My
open PySem L2 ClX
def sp_l_sum (K : PySem.W.Frag) : Sp := fun vs H Q _ => ∃ (a : Addr) (xs : List V) (ps : List Pr), vs = [.ref a] ∧ SqL K H a xs ∧ Each IsPair H xs ps ∧ xs.length ≤ 1000 ∧ ∀ (t : Addr) (H' : Hp), H t = none → Same H H' → H' t = some (.tup [.int (jC ps : Nat), .int (jB ps : Nat)]) → Q (.ref t) H'
theorem inV_words (s : Str) (d : Nat) : ∀ ps : List Pr, inV (.str s) (ps.map fun p => V.str (wordOf p d)) = ps.any fun p => decide (wordOf p d = s)
  | [] => rfl
  | p :: r => by
    have ih := inV_words s d r
    unfold inV at ih ⊢
    rw [List.map_cons, List.any_cons, List.any_cons, ih]
    congr 1
theorem words_flat (ps : List Pr) (d : Nat) : (ps.map fun p => V.str (wordOf p d)).all flatV = true := by
  simp [flatV]
theorem words_brok (ps : List Pr) (d : Nat) : (ps.any fun p => decide (wordOf p d = "broken")) = anyB ps d := by
  unfold anyB
  congr 1
  funext p
  exact word_brok p d
theorem words_conf {ps : List Pr} (g : ∀ p ∈ ps, GpP p) (d : Nat) : (ps.any fun p => decide (wordOf p d = "confirmed")) = anyC ps d := by
  unfold anyC
  induction ps with
  | nil => rfl
  | cons p r ih => rw [List.any_cons, List.any_cons, word_conf (g p List.mem_cons_self), ih fun q hq => g q (List.mem_cons_of_mem _ hq)]
theorem setOf_snoc (ds : List Nat) (d : Nat) : setOf (ds ++ [d]) = setOf ds ||| 2 ^ d := by
  unfold setOf
  rw [List.foldl_append]
  rfl
theorem setOf_fresh (f : Nat → Bool) (i : Nat) : (setOf ((List.range i).filter f)).testBit i = false := by
  rw [setOf_bit]
  simp
/-- the next day of a sum -/
theorem setOf_next (f : Nat → Bool) (i : Nat) : ((setOf ((List.range (i + 1)).filter f) : Nat) : Int) = if f i = true then ((setOf ((List.range i).filter f) : Nat) : Int) + 1 * 2 ^ (i : Int).toNat else ((setOf ((List.range i).filter f) : Nat) : Int) := by
  rw [filter_step]
  by_cases h : f i = true
  · rw [if_pos h, if_pos h, setOf_snoc, pow_cast, add_cast (setOf_fresh f i)]
  · rw [if_neg h, if_neg h, List.append_nil]
section
variable {P : Program} {w : World} {K : PySem.W.Frag} {mg : Str → Option Value} {base : Heap}
abbrev s_l_sum : Stmt := top 28
abbrev N_l_sum : List Str := ["_law_pairs", "_law_confirm", "_law_broken", "_law_day", "_law_words", "_law_pair_here"]
theorem sc_l_sum : FnScope N_l_sum ["_law_pairs"] (defScope s_l_sum) := ⟨rfl, rfl, rfl, by decide +kernel, rfl, by decide +kernel, by decide +kernel⟩
theorem ok_l_sum {f fW : Addr} {fd fdW : FuncData} (F : Fun K "_law_sum" "_law_sum" s_l_sum f fd) (T : BtR mg) (D_l_word : Df K mg "_law_word" ["_law_pair_here", "_law_day"] fW fdW) (G_l_word : FnOk P w K mg base CX0 2 fW fdW ["_law_pair_here", "_law_day"] sp_l_word) :
    FnOk P w K mg base CX0 3 f fd ["_law_pairs"] (sp_l_sum K) := by
  refine F.ok sc_l_sum (fun vs H Q E h => ?_) (fun cdv A outer s H vs Q E hr h => ?_)
  · obtain ⟨a, xs, ps, rfl, _⟩ := h
    rfl
  · obtain ⟨a, xs, ps, rfl, hl, he, hn, k⟩ := h
    have gs : ∀ p ∈ ps, GpP p := fun p hp => by
      obtain ⟨i, hi⟩ := List.mem_iff_getElem?.mp hp
      have hi2 : i < xs.length := by rw [he.1]; exact (List.getElem?_eq_some_iff.mp hi).1
      obtain ⟨b, _, _, g⟩ := he.2 i _ p (List.getElem?_eq_getElem hi2) hi
      exact g
    refine ⟨_, (pss_cons (ps_asg (pe_tup (pa_cons pe_int (pa_cons pe_int pa_nil))) (pg_tup rfl (pgs_cons (pg_name (i := 1) sc_l_sum.nd rfl (Or.inl rfl)) (pgs_cons (pg_name (i := 2) sc_l_sum.nd rfl (Or.inl rfl)) pgs_nil))))
        (pss_cons (ps_for PassesOwn.never rfl (pi_range1 (by rfl) T.range (pa_cons pe_int pa_nil)) (pg_name (i := 3) sc_l_sum.nd rfl (Or.inr rfl)) (pss_cons (ps_setLc (i := 4) (own := [("_law_pair_here", 5)]) (g := gName 5) (tt := tYes) rfl sc_l_sum.nd rfl rfl (sw_true rfl rfl rfl (by decide +kernel)) (pi_list (pv 0)) (blkOk_by (N := N_l_sum) (sc := defScope s_l_sum) (by decide +kernel)) (fun _ _ _ _ _ => (pg_name (i := 5) sc_l_sum.nd rfl (Or.inl rfl))) (fun _ _ _ _ _ => pts_nil) (fun _ _ _ _ _ => (pe_call G_l_word (hr.mono (by decide)) (by rfl) D_l_word.g D_l_word.kp D_l_word.b .nil pass0 (pa_cons (pv 5) (pa_cons (pv 3) pa_nil)))))
        (pss_one (ps_if (pt_cmpR op_in_seq pe_str (pv 4) (by rfl)) (pss_one (ps_set (i := 2) sc_l_sum.nd rfl (Or.inl rfl) (pe_op op_add (pv 2) (pe_op op_shl pe_int (pv 3))))) (pss_one (ps_if (pt_cmpR op_in_seq pe_str (pv 4) (by rfl)) (pss_one (ps_set (i := 1) sc_l_sum.nd rfl (Or.inl rfl) (pe_op op_add (pv 1) (pe_op op_shl pe_int (pv 3))))) pss_nil))))))
        (pss_one (ps_ret (pe_tup (pa_cons (pv 1) (pa_cons (pv 2) pa_nil))))))), ?_⟩
    refine ⟨by show 2 ≤ sizeLine; decide, fun T0 hT0 => ⟨T0, _, rfl, SqT.of upd_same, rfl, _, _, rfl, _, _, rfl, rfl, ?_⟩⟩
    have g0 := same_new (o := .tup [V.int 0, V.int 0]) hT0
    refine ⟨16, rfl, by decide, by decide, for_range (lo := 0) (n := 16) (fun i σ H' => Same H H' ∧ ∃ (u3 u4 u5 : Option V), σ = [some (.ref a), some (.int (setOf ((List.range i).filter fun d => anyC ps d && !anyB ps d) : Nat)), some (.int (setOf ((List.range i).filter fun d => anyB ps d) : Nat)), u3, u4, u5])
      ⟨g0, _, _, _, rfl⟩ ?_ ?_⟩
    · rintro i σ H1 hi ⟨s1, u3, u4, u5, rfl⟩
      try dsimp only [gName]
      rw [Int.zero_add]
      refine ⟨_, rfl, a, rfl, ⟨_, s1.seq hl⟩, fun D hD => ?_⟩
      refine lc_mapL (K := K) (a := a) (xs := xs) (ys := ps.map fun p => V.str (wordOf p i)) (s1.seq hl) hD (by rw [List.length_map]; exact he.1) (Nat.le_trans hn (by decide)) (fun j x y H2 hx hy s2 Q' q' => ?_) (fun H2 s2 h2 => ?_)
      · rw [List.getElem?_map] at hy
        cases hp : ps[j]? with
        | none => rw [hp] at hy; cases hy
        | some p =>
          rw [hp] at hy
          injection hy with hy
          subst hy
          exact ⟨_, rfl, _, rfl, x, p, i, rfl, (he.2 j x p hx hp).same (s1.trans s2), q' _ (Same.refl _)⟩
      · have s2 := s1.trans s2
        try dsimp only [gName]
        have iB := (inV_words "broken" i ps).trans (words_brok ps i)
        have iC := (inV_words "confirmed" i ps).trans (words_conf gs i)
        have nB := setOf_next (fun d => anyB ps d) i
        have nC := setOf_next (fun d => anyC ps d && !anyB ps d) i
        refine ⟨_, rfl, D, _, rfl, .inl (SqL.of h2), rfl, words_flat ps i, _, rfl, ?_⟩
        cases hb : anyB ps i with
        | true =>
          refine ite2 (fun _ => ?_) (fun z => (z (iB.trans hb)).elim)
          refine ⟨_, rfl, _, rfl, _, _, rfl, rfl, ⟨by omega, by omega, by decide⟩, _, _, rfl, rfl, s2, some (.int (i : Int)), some (.ref D), u5, ?_⟩
          rw [nB, if_pos hb, nC, if_neg (by simp [hb])]
          rfl
        | false =>
          refine ite2 (fun z => ?_) (fun _ => ?_)
          · have := (iB.trans hb).symm.trans z
            cases this
          refine ⟨_, rfl, D, _, rfl, .inl (SqL.of h2), rfl, words_flat ps i, _, rfl, ?_⟩
          cases hc : anyC ps i with
          | true =>
            refine ite2 (fun _ => ?_) (fun z => (z (iC.trans hc)).elim)
            refine ⟨_, rfl, _, rfl, _, _, rfl, rfl, ⟨by omega, by omega, by decide⟩, _, _, rfl, rfl, s2, some (.int (i : Int)), some (.ref D), u5, ?_⟩
            rw [nB, if_neg (by simp [hb]), nC, if_pos (by simp [hb, hc])]
            rfl
          | false =>
            refine ite2 (fun z => ?_) (fun _ => ?_)
            · have := (iC.trans hc).symm.trans z
              cases this
            refine ⟨s2, some (.int (i : Int)), some (.ref D), u5, ?_⟩
            rw [nB, if_neg (by simp [hb]), nC, if_neg (by simp [hb, hc])]
            rfl
    · rintro σ H1 ⟨s1, u3, u4, u5, rfl⟩
      exact ⟨_, rfl, _, rfl, by show 2 ≤ sizeLine; decide, fun t ht => k t _ (s1.free ht) (s1.trans (same_new ht)) upd_same⟩
end
end My
set_option Elab.async false
set_option maxRecDepth 100000
set_option maxHeartbeats 4000000
namespace My
open PySem L2 ClX
def sp_l_refused (K : PySem.W.Frag) : Sp := fun vs H Q _ => ∃ x y : V, vs = [x, y] ∧ Th K H x ∧ Th K H y ∧ ∀ H', Same H H' → Q (.bl (!vok x y)) H'
def sp_l_refusals : Sp := fun vs H Q _ => ∃ (b : Addr) (x : V) (p : Pr), vs = [.ref b, x] ∧ Bag H b ∧ IsPair H x p ∧ (∀ a, x = .ref a → a ≠ b) ∧ ∀ H', Bag H' b → But b H H' → Q (.bl true) H'
structure BtO (mg : Str → Option Value) : Prop where
  repr : mg "repr" = none
theorem vok_l {x y : V} (h : whole 0 65535 x = false) : vok x y = false := by
  unfold vok
  rw [h]
  rfl
theorem vok_r {x y : V} (h : whole 0 65535 y = false) : vok x y = false := by
  unfold vok
  rw [h, Bool.and_false]
  rfl
theorem vok_both {c e d : Nat} : vok (.int (Builtin.bitOr (c : Int) (1 * 2 ^ (d : Int).toNat))) (.int (Builtin.bitOr (e : Int) (1 * 2 ^ (d : Int).toNat))) = false := by
  have h : ¬ (c ||| 2 ^ d) &&& (e ||| 2 ^ d) = 0 := fun z => by
    have h1 : ((c ||| 2 ^ d) &&& (e ||| 2 ^ d)).testBit d = true := by
      rw [Nat.testBit_and, or_bit, or_bit]
      simp
    rw [z, Nat.zero_testBit] at h1
    cases h1
  unfold vok
  rw [pow_cast, or_cast, or_cast]
  show (whole 0 65535 (.int ((c ||| 2 ^ d : Nat) : Int)) && whole 0 65535 (.int ((e ||| 2 ^ d : Nat) : Int)) && (Builtin.bitAnd ((c ||| 2 ^ d : Nat) : Int) ((e ||| 2 ^ d : Nat) : Int) == 0)) = false
  have e2 : (Builtin.bitAnd ((c ||| 2 ^ d : Nat) : Int) ((e ||| 2 ^ d : Nat) : Int) == 0) = false := by
    rw [and_cast]
    simp only [beq_eq_false_iff_ne, ne_eq]
    omega
  rw [e2, Bool.and_false]
theorem But.toSame {b : Addr} {H H1 H2 : Hp} (hb : H b = none) (s : Same H H1) (k : But b H1 H2) : Same H H2 := fun a o e => k a o (ne_of_none e hb) (s a o e)
def oddsD : PyData := .list [.int 16, .int (-1), .bool true, .none, .str "0", .list [.int 0]]
section
variable {P : Program} {w : World} {K : PySem.W.Frag} {mg : Str → Option Value} {base : Heap}
abbrev s_l_refused : Stmt := top 35
theorem sc_l_refused : FnScope ["_law_confirm", "_law_broken"] ["_law_confirm", "_law_broken"] (defScope s_l_refused) := ⟨rfl, rfl, rfl, by decide +kernel, rfl, by decide +kernel, by decide +kernel⟩
theorem ok_l_refused {CV CB f fI fB : Addr} {fd fdI fdB : FuncData} (F : Fun K "_law_refused" "_law_refused" s_l_refused f fd) (X : Err0 K mg "BadVerdicts" CB fB fdB) (SV : VerC K CV) (gV : mg "Verdicts" = some (.ref CV)) (MV : Mk K CV fI) (bIV : Binds K fdI ["self", "confirm", "broken"] [])
    (GIV : FnOk P w K mg base (L2.CX P w) 4 fI fdI ["self", "confirm", "broken"] (sp_vinit K CB)) : FnOk P w K mg base CX0 6 f fd ["_law_confirm", "_law_broken"] (sp_l_refused K) := by
  refine F.ok sc_l_refused (fun vs H Q E h => ?_) (fun cdv A outer s H vs Q E hr h => ?_)
  · obtain ⟨x, y, rfl, _⟩ := h
    rfl
  · obtain ⟨x, y, rfl, hx, hy, k⟩ := h
    refine ⟨_, (pss_cons (ps_try_only (tb := fun W => tDrop (tMakeS CV (sp_vinit K CB) [] (WE W) (tCons (tVar 0) (tCons (tVar 1) tNil)))) (ts := fun _ _ _ => tRet (tC (.bl true))) (Wout := fun _ _ _ _ => False) rfl rfl ⟨rfl, by decide, Or.inl X.g⟩ takes0
          (fun W pn xe tk _ => pss_one (ps_expr (by exact (pe_makeS MV GIV (hr.mono (by decide)) rfl gV bIV .nil (fun σ => passAt tk σ) (pa_cons (pv 0) (pa_cons (pv 1) pa_nil))))))
          (fun a oe cls d pn hz hf => pss_one (ps_ret pe_bl)))
        (pss_one (ps_ret pe_bl))), ?_⟩
    refine ⟨_, rfl, _, rfl, fun a dx ha hd ne => ?_⟩
    have s2 := same_two (o := .own a) (u := .ins CV dx []) ha hd
    refine ⟨a, CV, dx, x, y, rfl, upd_same, SV, hx.same s2, hy.same s2, fun z => ?_, fun c b e1 e2 g => ?_⟩
    · have k' := k _ s2
      rw [z] at k'
      exact ⟨true, X.te, fun _ _ _ => k', fun q => Bool.noConfusion q⟩
    · subst e1 e2
      have s3 : Same H (upd (upd (upd H dx (.own a)) a (.ins CV dx [])) a (.ins CV dx (verFs c b))) := by
        rw [upd_upd]
        exact same_two ha hd
      have k' := k _ s3
      rw [vok_good g] at k'
      exact ⟨rfl, k'⟩
abbrev s_l_refusals : Stmt := top 36
abbrev N_l_refusals : List Str := ["_law_bag_here", "_law_pair_here", "_law_odd", "_law_day", "_law_told_here", "_law_strange", "e"]
theorem sc_l_refusals : FnScope N_l_refusals ["_law_bag_here", "_law_pair_here"] (defScope s_l_refusals) := ⟨rfl, rfl, rfl, by decide +kernel, rfl, by decide +kernel, by decide +kernel⟩
theorem ok_l_refusals {CV CB CN f fI fT fO fR fN fV : Addr} {fd fdI fdT fdO fdR fdN fdV : FuncData} (F : Fun K "_law_refusals" "_law_refusals" s_l_refusals f fd) (T : BtO mg) (XN : ErrF K mg "NoDay" "day" CN fN fdN) (SV : VerC K CV) (gV : mg "Verdicts" = some (.ref CV)) (MV : Mk K CV fI) (bIV : Binds K fdI ["self", "confirm", "broken"] [])
    (GIV : FnOk P w K mg base (L2.CX P w) 4 fI fdI ["self", "confirm", "broken"] (sp_vinit K CB)) (MV_on : Meth K CV "on" fV) (bV_on : Binds K fdV ["self", "day"] []) (GV_on : FnOk P w K mg base (L2.CX P w) 5 fV fdV ["self", "day"] (sp_von K CV CN))
    (D_l_take : Df K mg "_law_take" ["_law_bag_here", "_law_many"] fT fdT) (G_l_take : FnOk P w K mg base CX0 2 fT fdT ["_law_bag_here", "_law_many"] sp_l_take) (D_l_of : Df K mg "_law_of" ["_law_bag_here", "_law_some"] fO fdO) (G_l_of : FnOk P w K mg base CX0 3 fO fdO ["_law_bag_here", "_law_some"] sp_l_of)
    (D_l_refused : Df K mg "_law_refused" ["_law_confirm", "_law_broken"] fR fdR) (G_l_refused : FnOk P w K mg base CX0 6 fR fdR ["_law_confirm", "_law_broken"] (sp_l_refused K)) : FnG P w K mg base CX0 7 f fd ["_law_bag_here", "_law_pair_here"] sp_l_refusals := by
  refine My.Fun.okG F sc_l_refusals (fun vs H Q E h => ?_) (fun cdv A outer s H vs Q E hG hr h => ?_)
  · obtain ⟨b, x, p, rfl, _⟩ := h
    rfl
  · obtain ⟨b, x, p, rfl, hB, ⟨a, rfl, ha, gp⟩, hn, k⟩ := h
    have na : a ≠ b := hn a rfl
    have hu : (A.deeper (PyProof.Rows.envOfC "_law_refusals" (defScope s_l_refusals) s.heap.objs.size f cdv)).units + 66 < cLine := by
      have := hr.un
      omega
    refine ⟨_, (pss_cons (ps_set (i := 2) sc_l_refusals.nd rfl (Or.inl rfl) (pe_call G_l_of (hr.mono (by decide)) (by rfl) D_l_of.g D_l_of.kp D_l_of.b .nil pass0 (pa_cons (pv 0) (pa_cons (pe_lst (pa_cons (pe_un un_neg pe_int) (pa_cons pe_int (pa_cons pe_bl (pa_cons pe_non (pa_cons pe_str (pa_cons (pe_tup (pa_cons pe_int pa_nil)) (pa_cons (pe_op op_pow pe_int pe_int) pa_nil)))))))) pa_nil))))
        (pss_cons (ps_if (PW.pt (pw_or (pt_not (pt_val (pe_call G_l_refused (hr.mono (by decide)) (by rfl) D_l_refused.g D_l_refused.kp D_l_refused.b .nil pass0 (pa_cons (pv 2) (pa_cons (pe_ix ix_tup (pv 1) pe_int (fun _ _ => rfl)) pa_nil))))) (pw_or1 (pt_not (pt_val (pe_call G_l_refused (hr.mono (by decide)) (by rfl) D_l_refused.g D_l_refused.kp D_l_refused.b .nil pass0 (pa_cons (pe_ix ix_tup (pv 1) pe_int (fun _ _ => rfl)) (pa_cons (pv 2) pa_nil)))))))) (pss_one (ps_ret pe_bl)) pss_nil)
        (pss_cons (ps_set (i := 3) sc_l_refusals.nd rfl (Or.inl rfl) (pe_call G_l_take (hr.mono (by decide)) (by rfl) D_l_take.g D_l_take.kp D_l_take.b .nil pass0 (pa_cons (pv 0) (pa_cons pe_int pa_nil))))
        (pss_cons (ps_if (PW.pt (pw_or (pt_not (pt_val (pe_call G_l_refused (hr.mono (by decide)) (by rfl) D_l_refused.g D_l_refused.kp D_l_refused.b .nil pass0 (pa_cons (pe_op op_or (pe_ix ix_tup (pv 1) pe_int (fun _ _ => rfl)) (pe_op op_shl pe_int (pv 3))) (pa_cons (pe_op op_or (pe_ix ix_tup (pv 1) pe_int (fun _ _ => rfl)) (pe_op op_shl pe_int (pv 3))) pa_nil))))) (pw_or (pt_val (pe_call G_l_refused (hr.mono (by decide)) (by rfl) D_l_refused.g D_l_refused.kp D_l_refused.b .nil pass0 (pa_cons pe_int (pa_cons pe_int pa_nil)))) (pw_or1 (pt_val (pe_call G_l_refused (hr.mono (by decide)) (by rfl) D_l_refused.g D_l_refused.kp D_l_refused.b .nil pass0 (pa_cons pe_int (pa_cons pe_int pa_nil)))))))) (pss_one (ps_ret pe_bl)) pss_nil)
        (pss_cons (ps_set (i := 4) sc_l_refusals.nd rfl (Or.inl rfl) (pe_lst pa_nil))
        (pss_cons (ps_for PassesOwn.never rfl (pi_list (pe_lst (pa_cons pe_int (pa_cons (pe_un un_neg pe_int) (pa_cons pe_bl (pa_cons pe_non (pa_cons pe_str (pa_cons (pe_lst (pa_cons pe_int pa_nil)) pa_nil)))))))) (pg_name (i := 5) sc_l_refusals.nd rfl (Or.inl rfl)) (pss_one (ps_try_as (i := 6) (tb := fun W => tDrop (tMethS CV "on" (sp_von K CV CN) (WE W) (tMake CV (sp_vinit K CB) [] E0 (tCons (tOp (rIxT K) (tVar 1) (tC (.int 0))) (tCons (tOp (rIxT K) (tVar 1) (tC (.int 1))) tNil))) (tCons (tVar 5) tNil))) (ts := fun a cls d => tDrop (tBM K "list" rAppend (tVar 4) (tCons (tXf a cls d CN "day" (tVar 6)) tNil))) (Wout := fun _ _ _ _ => False) rfl rfl sc_l_refusals.nd rfl rfl ⟨rfl, by decide, Or.inl XN.g⟩ takes0
            (fun W pn xe tk _ => pss_one (ps_expr (by exact (pe_methS (pe_make MV GIV (hr.mono (by decide)) (by rfl) gV bIV .nil passL (pa_cons (pe_ix ix_tup (pv 1) pe_int (fun _ _ => rfl)) (pa_cons (pe_ix ix_tup (pv 1) pe_int (fun _ _ => rfl)) pa_nil))) SV.cl MV_on GV_on (hr.mono (by decide)) bV_on (fun σ => passAt tk σ) (pa_cons (pv 5) pa_nil)))))
            (fun a oe cls d pn hz hf => pss_one (ps_expr (by exact (pe_bm PySem.F.plainAttrs_list PySem.F.slot_list_append PySem.F.type_list_append mt_append (pv 4) (pa_cons (pe_xf XN.xf XN.no hz hf (pv 6)) pa_nil))))))))
        (pss_one (ps_ret (pe_cmpR op_eq (pe_callB (call_reprD hG hu) (by rfl) T.repr (by decide +kernel) (pa_cons (pv 4) pa_nil)) (pe_callB (call_reprD hG hu) (by rfl) T.repr (by decide +kernel) (pa_cons (pe_lst (pa_cons pe_int (pa_cons (pe_un un_neg pe_int) (pa_cons pe_bl (pa_cons pe_non (pa_cons pe_str (pa_cons (pe_lst (pa_cons pe_int pa_nil)) pa_nil))))))) pa_nil)) (nomark _)))))))))), ?_⟩
    refine ⟨_, rfl, _, rfl, by show 1 ≤ sizeLine; decide, fun Tt hTt => ⟨_, _, rfl, rfl, ⟨by decide, by decide, by decide⟩, by show 7 ≤ sizeLine; decide, fun LL hLL => ?_⟩⟩
    have g1 := same_new (o := .tup [V.int 0]) hTt
    have hT1 : (upd H Tt (.tup [V.int 0])) Tt = some (.tup [.int 0]) := upd_same
    have nT : Tt ≠ b := hB.ne hTt
    have nL : LL ≠ b := (hB.same g1).ne hLL
    have g2 : Same (upd H Tt (.tup [V.int 0])) _ := same_new (o := .lst [V.int (-1), V.int 65536, V.bl true, V.non, V.str "0", V.ref Tt, V.int (10 ^ 30)]) hLL
    refine ⟨b, LL, [V.int (-1), V.int 65536, V.bl true, V.non, V.str "0", V.ref Tt, V.int (10 ^ 30)], rfl, (hB.same g1).same g2, nL, upd_same, by show 0 < 7; decide, by show 7 ≤ 100000; decide, fun j v H1 hj hB1 k1 => ?_⟩
    have hT := k1 _ _ nT (g2 _ _ hT1)
    have kk := (But.of (g1.trans g2)).trans k1
    have hv : Th K H1 v ∧ whole 0 65535 v = false := by
      have hm := List.mem_of_getElem? hj
      simp only [List.mem_cons, List.not_mem_nil, or_false] at hm
      rcases hm with rfl | rfl | rfl | rfl | rfl | rfl | rfl
      · exact ⟨.inl ⟨_, rfl⟩, by decide⟩
      · exact ⟨.inl ⟨_, rfl⟩, by decide⟩
      · exact ⟨.inr (.inl ⟨_, rfl⟩), by decide⟩
      · exact ⟨.inr (.inr ⟨fun _ => V.noConfusion, fun _ => V.noConfusion, _, .base .non, by decide +kernel, by decide +kernel⟩), by decide⟩
      · exact ⟨.inr (.inr ⟨fun _ => V.noConfusion, fun _ => V.noConfusion, _, .base (.str _), by decide +kernel, by decide +kernel⟩), by decide⟩
      · exact ⟨.inr (.inr ⟨fun _ => V.noConfusion, fun _ => V.noConfusion, _, .base (.tup hT), by decide +kernel, by decide +kernel⟩), rfl⟩
      · exact ⟨.inl ⟨_, rfl⟩, by decide +kernel⟩
    have a1 := kk _ _ na ha
    clear hT hT1 g1 g2 hTt hLL nL hj k1
    refine ⟨_, rfl, _, rfl, _, _, _, _, rfl, rfl, SqT.of a1, rfl, v, _, rfl, hv.1, .inl ⟨_, rfl⟩, fun H2 s2 => ⟨_, rfl, ?_⟩⟩
    rw [vok_l hv.2]
    refine iteF ⟨_, rfl, _, _, _, _, rfl, rfl, SqT.of (s2 _ _ a1), rfl, _, rfl, _, v, rfl, .inl ⟨_, rfl⟩, hv.1.same s2, fun H3 s3 => ⟨_, rfl, ?_⟩⟩
    rw [vok_r hv.2]
    refine iteF ?_
    have s3 := s2.trans s3
    refine ⟨_, rfl, b, 16, rfl, hB1.same s3, by decide, by decide, fun r H4 r0 r1 hB4 k4 => ?_⟩
    obtain ⟨d, rfl⟩ := Int.eq_ofNat_of_zero_le r0
    have kk := (kk.trans (But.of s3)).trans k4
    have a4 := kk _ _ na ha
    refine ⟨_, rfl, _, _, _, _, rfl, rfl, SqT.of a4, rfl, _, rfl, _, _, rfl, rfl, ⟨by omega, by omega, by decide⟩, _, _, rfl, rfl, _, rfl, _, _, _, _, rfl, rfl, SqT.of a4, rfl, _, rfl, _, _, rfl, rfl, ⟨by omega, by omega, by decide⟩, _, _, rfl, rfl, .int (Builtin.bitOr (p.1 : Int) (1 * 2 ^ (d : Int).toNat)), .int (Builtin.bitOr (p.2 : Int) (1 * 2 ^ (d : Int).toNat)), rfl, .inl ⟨_, rfl⟩, .inl ⟨_, rfl⟩, fun H5 s5 => ⟨_, rfl, ?_⟩⟩
    rw [vok_both]
    refine iteF ⟨_, _, rfl, .inl ⟨_, rfl⟩, .inl ⟨_, rfl⟩, fun H6 s6 => ⟨_, rfl, ?_⟩⟩
    rw [show vok (.int 65535) (.int 0) = true from by decide +kernel]
    refine iteF ⟨_, _, rfl, .inl ⟨_, rfl⟩, .inl ⟨_, rfl⟩, fun H7 s7 => ⟨_, rfl, ?_⟩⟩
    rw [show vok (.int 0) (.int 65535) = true from by decide +kernel]
    refine iteF ?_
    have s7 := (s5.trans s6).trans s7
    have hB7 := hB4.same s7
    have kk := kk.trans (But.of s7)
    have a7 := s7 _ _ a4
    clear s5 s6 s7 a4 hB4
    refine ⟨by show 0 ≤ sizeLine; decide, fun L hL => ?_⟩
    refine ⟨_, rfl, by show 1 ≤ sizeLine; decide, fun L0 hL0 => ⟨by show 6 ≤ sizeLine; decide, fun LL hLL => ?_⟩⟩
    have g2 := same_new (o := .lst []) hL
    have g4 := same_new (o := .lst [V.int 0]) hL0
    have g5 := same_new (o := .lst [V.int 16, V.int (-1), V.bl true, V.non, V.str "0", V.ref L0]) hLL
    have f1 := g5 _ _ (g4 _ _ (upd_same (H := H7) (a := L) (o := .lst [])))
    have f3 := g5 _ _ (upd_same (H := upd H7 L (.lst [])) (a := L0) (o := .lst [V.int 0]))
    have f4 := upd_same (H := upd (upd H7 L (.lst [])) L0 (.lst [V.int 0])) (a := LL) (o := .lst [V.int 16, V.int (-1), V.bl true, V.non, V.str "0", V.ref L0])
    have s5 := g2.trans (g4.trans g5)
    have a5 := s5 _ _ a7
    have hB5 := hB7.same s5
    have nLb : L ≠ b := hB7.ne hL
    generalize e5 : (upd (upd (upd H7 L (.lst [])) L0 (.lst [V.int 0])) LL (.lst [V.int 16, V.int (-1), V.bl true, V.non, V.str "0", V.ref L0])) = H5 at f1 f3 f4 s5 a5 hB5
    have n3 : L0 ≠ L := fun e => by
      rw [e, f1] at f3
      cases f3
    have n4 : LL ≠ L := fun e => by
      rw [e, f1] at f4
      cases f4
    have n5 : a ≠ L := ne_of_none a7 hL
    refine ⟨LL, rfl, ⟨_, SqL.of f4⟩, for_list (K := K) (a := LL) (g := gName 5) (tb := fun D σ H => tDrop (tMethS CV "on" (sp_von K CV CN) (WE (wAs K (.ref CN) 6 (fun a cls d => tDrop (tBM K "list" rAppend (tVar 4) (tCons (tXf a cls d CN "day" (tVar 6)) tNil))) (fun _ _ _ _ => False) D)) (tMake CV (sp_vinit K CB) [] E0 (tCons (tOp (rIxT K) (tVar 1) (tC (.int 0))) (tCons (tOp (rIxT K) (tVar 1) (tC (.int 1))) tNil))) (tCons (tVar 5) tNil)) D σ H) (xs := [V.int 16, V.int (-1), V.bl true, V.non, V.str "0", V.ref L0])
      (fun i σ H' => But L H5 H' ∧ H' L = some (.lst ([V.int 16, V.int (-1), V.bl true, V.non, V.str "0", V.ref L0].take i)) ∧ ∃ u2 u3 u5 u6, σ = [some (.ref b), some (.ref a), u2, u3, some (.ref L), u5, u6]) ?_ (fun i σ H' _ h => SqL.of (h.1 _ _ n4 f4)) ?_ ?_⟩
    · exact ⟨But.refl L _, f1, _, _, _, _, rfl⟩
    · rintro i x σ H' hi ⟨kb, hL', u2, u3, u5, u6, rfl⟩
      have hx : Th K H' x ∧ whole 0 15 x = false := by
        have hm := List.mem_of_getElem? hi
        simp only [List.mem_cons, List.not_mem_nil, or_false] at hm
        rcases hm with rfl | rfl | rfl | rfl | rfl | rfl
        · exact ⟨.inl ⟨_, rfl⟩, by decide⟩
        · exact ⟨.inl ⟨_, rfl⟩, by decide⟩
        · exact ⟨.inr (.inl ⟨_, rfl⟩), by decide⟩
        · exact ⟨.inr (.inr ⟨fun _ => V.noConfusion, fun _ => V.noConfusion, _, .base .non, by decide +kernel, by decide +kernel⟩), by decide⟩
        · exact ⟨.inr (.inr ⟨fun _ => V.noConfusion, fun _ => V.noConfusion, _, .base (.str _), by decide +kernel, by decide +kernel⟩), by decide⟩
        · exact ⟨.inr (.inr ⟨fun _ => V.noConfusion, fun _ => V.noConfusion, _, .base (.lst (kb _ _ n3 f3)), by decide +kernel, by decide +kernel⟩), rfl⟩
      have a' := kb _ _ n5 a5
      refine ⟨_, rfl, _, _, _, _, rfl, rfl, SqT.of a', rfl, _, rfl, _, _, _, _, rfl, rfl, SqT.of a', rfl, fun o d2 ho hd ne => vinit_ok SV ho hd gp fun H3 s3 hV => ?_⟩
      obtain ⟨dxo, eo, _⟩ := hV
      refine ⟨o, dxo, _, rfl, eo, rfl, _, rfl, o, p.1, p.2, x, rfl, ⟨dxo, eo, gp⟩, hx.1.same s3, fun _ d H2 h1 h2 h3 => ?_, fun d e hd => ?_⟩
      · have h2 := s3.trans h2
        refine ⟨true, XN.te, fun _ ae hae => ?_, fun q => Bool.noConfusion q⟩
        refine ⟨_, rfl, .inl ⟨rfl, _, SqL.of (h2 _ _ hL')⟩, _, rfl, rfl, rfl, d, _, _, rfl, h3, rfl, L, _, _, rfl, rfl, h2 _ _ hL', ?_, ?_⟩
        · rw [List.length_take]
          exact Nat.lt_of_le_of_lt (Nat.min_le_right _ _) (by show 6 < sizeLine; decide)
        · refine ⟨fun q o nb eb => ?_, ?_, u2, u3, _, _, rfl⟩
          · rw [upd_ne nb]
            exact h2 _ _ (kb _ _ nb eb)
          · rw [upd_same, List.take_add_one, hi]
            rfl
      · exfalso
        have hw := hx.2
        rw [e] at hw
        have hw' : (decide (0 ≤ (d : Int)) && decide ((d : Int) ≤ 15)) = false := hw
        simp at hw'
        omega
    · rintro σ H2 ⟨kb, hL', u2, u3, u5, u6, rfl⟩
      have d3 := kb _ _ n3 f3
      refine ⟨_, rfl, L, oddsD, rfl, .lst (SqL.of hL') (.cons (.int 16) (.cons (.int (-1)) (.cons (.bl true) (.cons .non (.cons (.str _) (.cons (.lst (SqL.of d3) (.cons (.int 0) .nil)) .nil)))))), by decide +kernel, by decide +kernel, by decide +kernel, ?_⟩
      refine ⟨_, rfl, by show 1 ≤ sizeLine; decide, fun L2 hL2 => ⟨by show 6 ≤ sizeLine; decide, fun L3 hL3 => ?_⟩⟩
      have g4 := same_new (o := .lst [V.int 0]) hL2
      have g5 := same_new (o := .lst [V.int 16, V.int (-1), V.bl true, V.non, V.str "0", V.ref L2]) hL3
      have c3 := g5 _ _ (upd_same (H := H2) (a := L2) (o := .lst [V.int 0]))
      have c4 := upd_same (H := upd H2 L2 (.lst [V.int 0])) (a := L3) (o := .lst [V.int 16, V.int (-1), V.bl true, V.non, V.str "0", V.ref L2])
      refine ⟨L3, oddsD, rfl, .lst (SqL.of c4) (.cons (.int 16) (.cons (.int (-1)) (.cons (.bl true) (.cons .non (.cons (.str _) (.cons (.lst (SqL.of c3) (.cons (.int 0) .nil)) .nil)))))), by decide +kernel, by decide +kernel, by decide +kernel, rfl, ?_⟩
      have sL := But.toSame hL s5 kb
      have k' := k _ (((hB7.same sL).same g4).same g5) ((kk.trans (But.of sL)).trans (But.of (g4.trans g5)))
      have eT : true = decide (V.str oddsD.shown = V.str oddsD.shown) := (decide_eq_true rfl).symm
      exact eT ▸ k'
end
end My
set_option Elab.async false
set_option maxRecDepth 100000
set_option maxHeartbeats 4000000
namespace My
open PySem L2 ClX
/-! ### comprehensions whose elements are new objects; pairs added -/
theorem Each.mono {α : Type} {R : Hp → V → α → Prop} {H H' : Hp} {xs : List V} {ps : List α} (h : Each R H xs ps) (m : ∀ x p, R H x p → R H' x p) : Each R H' xs ps := ⟨h.1, fun i x p hx hp => m x p (h.2 i x p hx hp)⟩
theorem Each.nil {α : Type} {R : Hp → V → α → Prop} {H : Hp} : Each R H [] [] := ⟨rfl, fun i x p h => by simp at h⟩
theorem Each.snoc {α : Type} {R : Hp → V → α → Prop} {H : Hp} {xs : List V} {ps : List α} {x : V} {p : α} (h : Each R H xs ps) (r : R H x p) : Each R H (xs ++ [x]) (ps ++ [p]) := by
  refine ⟨by simp [h.1], fun i y q hy hq => ?_⟩
  by_cases hi : i < xs.length
  · rw [List.getElem?_append_left hi] at hy
    rw [List.getElem?_append_left (by rw [← h.1]; exact hi)] at hq
    exact h.2 i y q hy hq
  · have hl := (List.getElem?_eq_some_iff.mp hy).1
    rw [List.length_append, List.length_singleton] at hl
    have e : i = xs.length := by omega
    subst e
    rw [List.getElem?_append_right (Nat.le_refl _), Nat.sub_self] at hy
    rw [h.1, List.getElem?_append_right (Nat.le_refl _), Nat.sub_self] at hq
    injection hy with hy
    injection hq with hq
    subst hy hq
    exact r
theorem lc_each {α : Type} {K : PySem.W.Frag} {a D : Addr} {xs : List V} {j : Nat} {te : TE} {σ : St} {H : Hp} {Qd : Hp → Prop} (ps : List α) (R : Hp → V → α → Prop) (hS : SqL K H a xs) (hD : H D = none) (hl : xs.length = ps.length) (hn : xs.length ≤ 100000)
    (mono : ∀ H1 H2 x p, R H1 x p → (∃ l, H1 D = some (.lst l)) → But D H1 H2 → R H2 x p)
    (he : ∀ (i : Nat) (x : V) (p : α) (H2 : Hp), xs[i]? = some x → ps[i]? = some p → Same H H2 → ∀ Q : VK, (∀ y H3, Same H2 H3 → R H3 y p → Q y H3) → te ((wipe σ [j]).set j (some x)) H2 Q)
    (hd : ∀ ys H2, Same H H2 → H2 D = some (.lst ys) → Each R H2 ys ps → Qd H2) :
    ∃ W : Nat → Nat → Hp → Prop, (∃ m, W 0 m (upd H D (.lst []))) ∧ ∀ i m H, W i m H →
      ((Itl K a).stop i H ∧ Qd H) ∨ ((Itl K a).go i H ∧ ∃ Nx : Hp → Prop, (∀ H', Nx H' → ∃ m', m' < m ∧ W (i + 1) m' H') ∧ ∀ x H', (Itl K a).yld i H x H' → gName j x (wipe σ [j]) H' fun σ2 H2 => wipe σ2 [j] = wipe σ [j] ∧ tYes σ2 H2 fun b H3 =>
        if b = true then te σ2 H3 fun y H4 => ∃ acc, H4 D = some (.lst acc) ∧ acc.length < sizeLine ∧ Nx (upd H4 D (.lst (acc ++ [y]))) else Nx H3) := by
  refine lc_list (K := K) (a := a) (xs := xs) (fun i H2 => Same H H2 ∧ ∃ ys, H2 D = some (.lst ys) ∧ Each R H2 ys (ps.take i)) ⟨same_new hD, [], upd_same, by rw [List.take_zero]; exact Each.nil⟩ (fun i H2 _ h => h.1.seq hS) ?_ ?_
  · rintro i x H2 hi ⟨s2, ys, h2, e2⟩
    have hi1 : i < xs.length := (List.getElem?_eq_some_iff.mp hi).1
    obtain ⟨p, hp⟩ : ∃ p, ps[i]? = some p := ⟨_, List.getElem?_eq_getElem (by rw [← hl]; exact hi1)⟩
    refine ⟨wipe1 σ j _, ?_⟩
    refine iteT (B := Same H H2 ∧ ∃ ys, H2 D = some (.lst ys) ∧ Each R H2 ys (ps.take (i + 1))) ?_
    refine he i x p H2 hi hp s2 _ fun y H3 s3 ry => ?_
    have h3 := s3 _ _ h2
    have bD : But D H3 (upd H3 D (.lst (ys ++ [y]))) := But.upd D H3 _
    refine ⟨ys, h3, ?_, fun b o e => ?_, ys ++ [y], upd_same, ?_⟩
    · rw [e2.1, List.length_take]
      exact Nat.lt_of_le_of_lt (Nat.min_le_left _ _) (Nat.lt_of_lt_of_le hi1 (Nat.le_trans hn (by decide)))
    · rw [upd_ne (ne_of_none e hD)]
      exact s3 _ _ (s2 _ _ e)
    · rw [List.take_add_one, hp]
      refine Each.snoc (e2.mono fun x p r => mono _ _ _ _ (mono _ _ _ _ r ⟨ys, h2⟩ (But.of s3)) ⟨ys, h3⟩ bD) (mono _ _ _ _ ry ⟨ys, h3⟩ bD)
  · rintro H2 ⟨s2, ys, h2, e2⟩
    rw [hl, List.take_length] at e2
    exact hd ys H2 s2 h2 e2
theorem IsVer.but {C D : Addr} {H1 H2 : Hp} {x : V} {p : Pr} (h : IsVer C H1 x p) (hD : ∃ l, H1 D = some (.lst l)) (k : But D H1 H2) : IsVer C H2 x p := by
  obtain ⟨a, e, dx, ha, g⟩ := h
  obtain ⟨l, hl⟩ := hD
  refine ⟨a, e, dx, k a _ (fun z => ?_) ha, g⟩
  rw [z, hl] at ha
  cases ha
/-- the sum of two pairs -/
def ad (p q : Pr) : Pr := (addC p.1 p.2 q.1 q.2, p.2 ||| q.2)
def jp (ps : List Pr) : Pr := (jC ps, jB ps)
theorem ad_gp {p q : Pr} (h1 : GpP p) (h2 : GpP q) : GpP (ad p q) := gp_add h1 h2
theorem pr_ext {p q : Pr} (hp : GpP p) (hq : GpP q) (h : ∀ i, i < 16 → p.1.testBit i = q.1.testBit i ∧ p.2.testBit i = q.2.testBit i) : p = q := by
  refine Prod.ext (Nat.eq_of_testBit_eq fun i => ?_) (Nat.eq_of_testBit_eq fun i => ?_)
  · by_cases hi : i < 16
    · exact (h i hi).1
    · rw [bit_lt hp.2.1 hi, bit_lt hq.2.1 hi]
  · by_cases hi : i < 16
    · exact (h i hi).2
    · rw [bit_lt hp.2.2 hi, bit_lt hq.2.2 hi]
theorem ad1 {p q : Pr} (h1 : GpP p) (h2 : GpP q) (i : Nat) : (ad p q).1.testBit i = ((p.1.testBit i || q.1.testBit i) && !(p.2.testBit i || q.2.testBit i)) := add_bit2 h1.2.1 h2.2.1 i
theorem ad2 (p q : Pr) (i : Nat) : (ad p q).2.testBit i = (p.2.testBit i || q.2.testBit i) := Nat.testBit_or _ _ _
theorem gp_zero : GpP (0, 0) := ⟨rfl, by decide, by decide⟩
theorem ad_comm {p q : Pr} (hp : GpP p) (hq : GpP q) : ad p q = ad q p := pr_ext (ad_gp hp hq) (ad_gp hq hp) fun i _ => by
  rw [ad1 hp hq, ad1 hq hp, ad2, ad2]
  cases p.1.testBit i <;> cases q.1.testBit i <;> cases p.2.testBit i <;> cases q.2.testBit i <;> exact ⟨rfl, rfl⟩
theorem ad_assoc {p q r : Pr} (hp : GpP p) (hq : GpP q) (hr : GpP r) : ad (ad p q) r = ad p (ad q r) := pr_ext (ad_gp (ad_gp hp hq) hr) (ad_gp hp (ad_gp hq hr)) fun i _ => by
  simp only [ad1 (ad_gp hp hq) hr, ad1 hp (ad_gp hq hr), ad1 hp hq, ad1 hq hr, ad2]
  cases p.1.testBit i <;> cases q.1.testBit i <;> cases p.2.testBit i <;> cases q.2.testBit i <;> cases r.1.testBit i <;> cases r.2.testBit i <;> exact ⟨rfl, rfl⟩
theorem ad_self {p : Pr} (hp : GpP p) : ad p p = p := pr_ext (ad_gp hp hp) hp fun i _ => by
  rw [ad1 hp hp, ad2]
  have := gp_bit hp i
  cases h1 : p.1.testBit i <;> cases h2 : p.2.testBit i <;> simp_all
theorem ad_zero {p : Pr} (hp : GpP p) : ad p (0, 0) = p := pr_ext (ad_gp hp gp_zero) hp fun i _ => by
  rw [ad1 hp gp_zero, ad2, Nat.zero_testBit]
  have := gp_bit hp i
  cases h1 : p.1.testBit i <;> cases h2 : p.2.testBit i <;> simp_all
theorem zero_ad {p : Pr} (hp : GpP p) : ad (0, 0) p = p := by rw [ad_comm gp_zero hp, ad_zero hp]
theorem jp_snoc (ps : List Pr) {p : Pr} (g : GpP p) : jp (ps ++ [p]) = ad (jp ps) p := by
  have := j_snoc ps p g
  unfold jp ad
  rw [← this.1, ← this.2]
theorem jp_nil : jp [] = (0, 0) := rfl
theorem jp_one {p : Pr} (g : GpP p) : jp [p] = p := by
  have := jp_snoc [] g
  rw [jp_nil, zero_ad g] at this
  exact this
theorem jp_two {p q : Pr} (g : GpP p) (h : GpP q) : jp [p, q] = ad p q := by
  have := jp_snoc [p] h
  rw [jp_one g] at this
  exact this
theorem jp_three {p q r : Pr} (g : GpP p) (h : GpP q) (k : GpP r) : jp [p, q, r] = ad (ad p q) r := by
  have := jp_snoc [p, q] k
  rw [jp_two g h] at this
  exact this
end My
set_option Elab.async false
set_option maxRecDepth 100000
set_option maxHeartbeats 8000000
namespace My
open PySem L2 ClX
/-- [e for k in range(n)], the heap but for new objects as it was -/
theorem lc_mapR {D : Addr} {n : Nat} {ys : List V} {j : Nat} {te : TE} {σ : St} {H : Hp} {Qd : Hp → Prop} (hD : H D = none) (hl : n = ys.length) (hn : n ≤ 100000)
    (he : ∀ (i : Nat) (y : V) (H2 : Hp), ys[i]? = some y → Same H H2 → ∀ Q : VK, (∀ H3, Same H2 H3 → Q y H3) → te ((wipe σ [j]).set j (some (.int (0 + (i : Int))))) H2 Q)
    (hd : ∀ H2, Same H H2 → H2 D = some (.lst ys) → Qd H2) :
    ∃ W : Nat → Nat → Hp → Prop, (∃ m, W 0 m (upd H D (.lst []))) ∧ ∀ i m H, W i m H →
      ((Itr 0 n).stop i H ∧ Qd H) ∨ ((Itr 0 n).go i H ∧ ∃ Nx : Hp → Prop, (∀ H', Nx H' → ∃ m', m' < m ∧ W (i + 1) m' H') ∧ ∀ x H', (Itr 0 n).yld i H x H' → gName j x (wipe σ [j]) H' fun σ2 H2 => wipe σ2 [j] = wipe σ [j] ∧ tYes σ2 H2 fun b H3 =>
        if b = true then te σ2 H3 fun y H4 => ∃ acc, H4 D = some (.lst acc) ∧ acc.length < sizeLine ∧ Nx (upd H4 D (.lst (acc ++ [y]))) else Nx H3) := by
  refine lc_range (lo := 0) (n := n) (fun i H2 => Same H H2 ∧ H2 D = some (.lst (ys.take i))) ⟨same_new hD, upd_same⟩ ?_ ?_
  · rintro i H2 hi ⟨s2, h2⟩
    have hy : ys[i]? = some (ys[i]'(by omega)) := List.getElem?_eq_getElem _
    refine ⟨wipe1 σ j _, ?_⟩
    refine iteT (B := Same H H2 ∧ H2 D = some (.lst (ys.take (i + 1)))) ?_
    refine he i _ H2 hy s2 _ fun H3 s3 => ?_
    refine ⟨_, s3 _ _ h2, ?_, fun b o e => ?_, ?_⟩
    · rw [List.length_take]
      exact Nat.lt_of_le_of_lt (Nat.min_le_left _ _) (Nat.lt_of_lt_of_le hi (Nat.le_trans hn (by decide)))
    · rw [upd_ne (ne_of_none e hD)]
      exact s3 _ _ (s2 _ _ e)
    · rw [upd_same, List.take_add_one, hy]
      rfl
  · rintro H2 ⟨s2, h2⟩
    refine hd H2 s2 ?_
    rw [h2, hl, List.take_length]
theorem lay_strs : ∀ ss : List Str, (∀ s ∈ ss, PyData.strOk s = true) → PyData.canLayAll0 (ss.map PyData.str) = true ∧ PyData.depthAll (ss.map PyData.str) = 0
  | [], _ => by simp [PyData.canLayAll0, PyData.depthAll]
  | s :: r, hs => by
    have h := lay_strs r fun t ht => hs t (List.mem_cons_of_mem _ ht)
    simp [PyData.canLayAll0, PyData.depthAll, PyData.canLay0, PyData.depth, h.1, h.2, hs s List.mem_cons_self]
theorem shaped_strs (ss : List Str) (hs : ∀ s ∈ ss, PyData.strOk s = true) : SeqAt.shaped (.list (ss.map .str)) = true := by
  have h := lay_strs ss hs
  simp [SeqAt.shaped, PyData.canLay0, PyData.depth, h.1, h.2]
theorem eqv_strs : ∀ ss : List Str, PyData.eqvAll (ss.map .str) (ss.map .str) = true
  | [] => by simp [PyData.eqvAll]
  | s :: r => by
    have h := eqv_strs r
    simp [PyData.eqvAll, PyData.eqv, h]
theorem dp_strs {K : PySem.W.Frag} {H : Hp} : ∀ ss : List Str, DpAll K H (ss.map V.str) (ss.map .str)
  | [] => .nil
  | s :: r => .cons (.str s) (dp_strs r)
theorem eq_strs {K : PySem.W.Frag} {H : Hp} {Q : VK} {a b : Addr} {ss : List Str} (hs : ∀ s ∈ ss, PyData.strOk s = true) (ha : SqL K H a (ss.map V.str)) (hb : SqL K H b (ss.map V.str)) (q : Q (.bl true) H) : rEqD K (.ref a) (.ref b) H Q :=
  ⟨_, _, .lst ha (dp_strs ss), .lst hb (dp_strs ss), shaped_strs _ hs, shaped_strs _ hs, by rw [show PyData.eqv (.list (ss.map .str)) (.list (ss.map .str)) = true from by rw [← eqv_strs ss]; simp [PyData.eqv]]; exact q⟩
theorem verd_word {p : Pr} (g : GpP p) (d : Nat) : verd p.1 p.2 d = wordOf p d := by
  have gb := gp_bit g d
  unfold verd wordOf
  cases h1 : p.1.testBit d <;> cases h2 : p.2.testBit d <;> simp_all
theorem eq_intsT {K : PySem.W.Frag} {H : Hp} {Q : VK} {a b : Addr} {ns ms : List Int} (ha : SqT K H a (ns.map V.int)) (hb : SqT K H b (ms.map V.int)) (q : Q (.bl (decide (ns = ms))) H) : rEqD K (.ref a) (.ref b) H Q :=
  ⟨_, _, .tup ha (dp_ints ns), .tup hb (dp_ints ms), shaped_intsT _, shaped_intsT _, by rw [show PyData.eqv (.tuple (ns.map .int)) (.tuple (ms.map .int)) = decide (ns = ms) from by rw [← eqv_ints]; simp [PyData.eqv]]; exact q⟩
def prI (p : Pr) : List Int := [(p.1 : Int), (p.2 : Int)]
theorem prI_eq (p q : Pr) : decide (prI p = prI q) = decide (p = q) := by
  refine decide_eq_decide.mpr ⟨fun h => ?_, fun h => by rw [h]⟩
  unfold prI at h
  injection h with h1 h
  injection h with h2 h
  exact Prod.ext (by omega) (by omega)
theorem ne_prs {K : PySem.W.Frag} {H : Hp} {Q : VK} {a b : Addr} {p q : Pr} (ha : H a = some (.tup [.int p.1, .int p.2])) (hb : H b = some (.tup [.int q.1, .int q.2])) (k : Q (.bl (!decide (p = q))) H) : rNeD K (.ref a) (.ref b) H Q :=
  ne_intsT (ns := prI p) (ms := prI q) (SqT.of ha) (SqT.of hb) (by rw [prI_eq]; exact k)
theorem eq_prs {K : PySem.W.Frag} {H : Hp} {Q : VK} {a b : Addr} {p q : Pr} (ha : H a = some (.tup [.int p.1, .int p.2])) (hb : H b = some (.tup [.int q.1, .int q.2])) (k : Q (.bl (decide (p = q))) H) : rEqD K (.ref a) (.ref b) H Q :=
  eq_intsT (ns := prI p) (ms := prI q) (SqT.of ha) (SqT.of hb) (by rw [prI_eq]; exact k)
def VerP (C : Addr) (H : Hp) (a : Addr) (p : Pr) : Prop := Ver C H a p.1 p.2
theorem VerP.same {C a : Addr} {H H' : Hp} {p : Pr} (h : VerP C H a p) (s : Same H H') : VerP C H' a p := Ver.same h s
theorem VerP.gp {C a : Addr} {H : Hp} {p : Pr} (h : VerP C H a p) : GpP p := h.elim fun _ z => z.2
section
variable {K : PySem.W.Frag} {C g ga : Addr} {H : Hp} {Q : VK} {E : XK}
theorem own_ver (S : VerC K C) (S2 : VerK K C g ga) {x y : Addr} {p q : Pr} (h1 : VerP C H x p) (h2 : VerP C H y q) (k : Q (.bl (decide (p = q))) H) : rOwnD K C (fun vs H Q E => sp_veq K C (vs ++ []) H Q E) E (.ref x) (.ref y) H Q := by
  have h1' := h1
  obtain ⟨dx, e, _⟩ := h1'
  have e3 : decide (p = q) = decide (p.1 = q.1 ∧ p.2 = q.2) := decide_eq_decide.mpr Prod.ext_iff
  rw [e3] at k
  exact ⟨x, dx, _, _, rfl, e, ver_ty S S2 h2, by simp [PySem.W.notFirst], x, _, p.1, p.2, rfl, h1, .inl ⟨y, q.1, q.2, rfl, h2, k⟩⟩
theorem own_vtup (S2 : VerK K C g ga) {x a : Addr} {p : Pr} {xs : List V} (h1 : VerP C H x p) (h2 : H a = some (.tup xs)) (k : Q (.bl false) H) : rOwnD K C (fun vs H Q E => sp_veq K C (vs ++ []) H Q E) E (.ref x) (.ref a) H Q := by
  have h1' := h1
  obtain ⟨dx, e, _⟩ := h1'
  refine ⟨x, dx, _, _, rfl, e, .base (.tup h2), ?_, x, _, p.1, p.2, rfl, h1, .inr ⟨_, .base (.tup h2), S2.kt, k⟩⟩
  unfold PySem.W.notFirst
  rw [S2.nf]
  simp
theorem addP {x y : Addr} {p q : Pr} (h1 : VerP C H x p) (h2 : VerP C H y q) (k : ∀ (z : Addr) (H' : Hp), H z = none → Same H H' → VerP C H' z (ad p q) → Q (.ref z) H') : rOwnB C (fun vs H Q E => sp_add C (vs ++ []) H Q E) E0 (.ref x) (.ref y) H Q :=
  add_ok h1 h2 fun z H' n s h => k z H' n s h
end
def sp_l_sums (K : PySem.W.Frag) : Sp := fun vs H Q _ => ∃ (a : Addr) (xs : List V) (p0 p1 p2 : Pr), vs = [.ref a] ∧ SqL K H a xs ∧ Each IsPair H xs [p0, p1, p2] ∧ ∀ H', Same H H' → Q (.bl true) H'
section
variable {P : Program} {w : World} {K : PySem.W.Frag} {mg : Str → Option Value} {base : Heap}
abbrev s_l_sums : Stmt := top 32
abbrev N_l_sums : List Str := ["_law_pairs", "_law_made", "_law_u", "_law_v", "_law_w", "_law_pair_here", "_law_day"]
theorem sc_l_sums : FnScope N_l_sums ["_law_pairs"] (defScope s_l_sums) := ⟨rfl, rfl, rfl, by decide +kernel, rfl, by decide +kernel, by decide +kernel⟩
theorem ok_l_sums {CV CB CN pN f fI fA fE fN fV fS fT fW : Addr} {fd fdI fdA fdE fdN fdV fdS fdT fdW : FuncData} {mc : Value} (F : Fun K "_law_sums" "_law_sums" s_l_sums f fd) (T : BtR mg) (SV : VerC K CV) (S2 : VerK K CV fE fA) (gV : mg "Verdicts" = some (.ref CV)) (MV : Mk K CV fI) (bIV : Binds K fdI ["self", "confirm", "broken"] [])
    (GIV : FnOk P w K mg base (L2.CX P w) 4 fI fdI ["self", "confirm", "broken"] (sp_vinit K CB)) (bA : Binds K fdA ["self", "other"] []) (GA : FnOk P w K mg base CX0 6 fA fdA ["self", "other"] (sp_add CV)) (bE : Binds K fdE ["self", "other"] []) (GE : FnOk P w K mg base CX0 2 fE fdE ["self", "other"] (sp_veq K CV))
    (CRV : CRead K CV mc) (CMV_none : CMet K CV mc "none" pN fN) (bV_none : Binds K fdN ["cls"] []) (GV_none : FnOk P w K mg base CX0 6 fN fdN ["cls"] (sp_none CV)) (MV_on : Meth K CV "on" fV) (bV_on : Binds K fdV ["self", "day"] []) (GV_on : FnOk P w K mg base (L2.CX P w) 5 fV fdV ["self", "day"] (sp_von K CV CN))
    (D_l_sum : Df K mg "_law_sum" ["_law_pairs"] fS fdS) (G_l_sum : FnOk P w K mg base CX0 3 fS fdS ["_law_pairs"] (sp_l_sum K)) (D_l_told : Df K mg "_law_told" ["_law_verdicts"] fT fdT) (G_l_told : FnOk P w K mg base CX0 2 fT fdT ["_law_verdicts"] (sp_l_told CV))
    (D_l_word : Df K mg "_law_word" ["_law_pair_here", "_law_day"] fW fdW) (G_l_word : FnOk P w K mg base CX0 2 fW fdW ["_law_pair_here", "_law_day"] sp_l_word) : FnOk P w K mg base CX0 7 f fd ["_law_pairs"] (sp_l_sums K) := by
  refine F.ok sc_l_sums (fun vs H Q E h => ?_) (fun cdv A outer s H vs Q E hr h => ?_)
  · obtain ⟨a, xs, p0, p1, p2, rfl, _⟩ := h
    rfl
  · obtain ⟨L, xs, p0, p1, p2, rfl, hl, he, k⟩ := h
    refine ⟨_, (pss_cons (ps_set (i := 1) sc_l_sums.nd rfl (Or.inr rfl) (pe_lc (own := [("_law_pair_here", 5)]) (g := gName 5) (tt := tYes) rfl sc_l_sums.nd (pi_list (pv 0)) (blkOk_by (N := N_l_sums) (sc := defScope s_l_sums) (by decide +kernel)) (fun _ _ _ _ _ => (pg_name (i := 5) sc_l_sums.nd rfl (Or.inl rfl))) (fun _ _ _ _ _ => pts_nil) (fun _ _ _ _ _ => (pe_make MV GIV (hr.mono (by decide)) (by rfl) gV bIV .nil passL (pa_cons (pe_ix (ix_tupK (K := K) rfl) (pv 5) pe_int (fun _ _ => rfl)) (pa_cons (pe_ix (ix_tupK (K := K) rfl) (pv 5) pe_int (fun _ _ => rfl)) pa_nil))))))
        (pss_cons (ps_par3 (i := 2) (j := 3) (l := 4) (by rfl) sc_l_sums.nd rfl rfl rfl (by decide) (by decide) (by decide) rfl rfl rfl (pa_cons (pe_ix ix_list (pv 1) pe_int (fun _ _ => rfl)) (pa_cons (pe_ix ix_list (pv 1) pe_int (fun _ _ => rfl)) (pa_cons (pe_ix ix_list (pv 1) pe_int (fun _ _ => rfl)) pa_nil))) (by rfl))
        (pss_cons (ps_if (PW.pt (pw_or (pt_cmpR (op_neD hr.units) (pe_call G_l_told (hr.mono (by decide)) (by rfl) D_l_told.g D_l_told.kp D_l_told.b .nil pass0 (pa_cons (pe_op (op_ownB S2.sf S2.ad S2.fa (GA.raw bA .nil) (hr.mono (by decide)) pass0) (pv 2) (pv 3)) pa_nil)) (pe_call G_l_sum (hr.mono (by decide)) (by rfl) D_l_sum.g D_l_sum.kp D_l_sum.b .nil pass0 (pa_cons (pe_slice sl_list (pv 0) po_none (po_some pe_int)) pa_nil)) (nomark _)) (pw_or (pt_not (pt_cmpR (op_ownD (op := .Eq) (fun _ _ => rfl) S2.eq S2.fe (GE.raw bE .nil) (hr.mono (by decide)) pass0) (pe_op (op_ownB S2.sf S2.ad S2.fa (GA.raw bA .nil) (hr.mono (by decide)) pass0) (pv 2) (pv 3)) (pe_op (op_ownB S2.sf S2.ad S2.fa (GA.raw bA .nil) (hr.mono (by decide)) pass0) (pv 3) (pv 2)) (nomark _))) (pw_or1 (pt_cmpR (op_neD hr.units) (pe_call G_l_told (hr.mono (by decide)) (by rfl) D_l_told.g D_l_told.kp D_l_told.b .nil pass0 (pa_cons (pv 2) pa_nil)) (pe_ix ix_list (pv 0) pe_int (fun _ _ => rfl)) (nomark _)))))) (pss_one (ps_ret pe_bl)) pss_nil)
        (pss_cons (ps_if (PW.pt (pw_or (pt_cmpR (op_neD hr.units) (pe_call G_l_told (hr.mono (by decide)) (by rfl) D_l_told.g D_l_told.kp D_l_told.b .nil pass0 (pa_cons (pe_op (op_ownB S2.sf S2.ad S2.fa (GA.raw bA .nil) (hr.mono (by decide)) pass0) (pe_op (op_ownB S2.sf S2.ad S2.fa (GA.raw bA .nil) (hr.mono (by decide)) pass0) (pv 2) (pv 3)) (pv 4)) pa_nil)) (pe_call G_l_sum (hr.mono (by decide)) (by rfl) D_l_sum.g D_l_sum.kp D_l_sum.b .nil pass0 (pa_cons (pv 0) pa_nil)) (nomark _)) (pw_or (pt_not (pt_cmpR (op_ownD (op := .Eq) (fun _ _ => rfl) S2.eq S2.fe (GE.raw bE .nil) (hr.mono (by decide)) pass0) (pe_op (op_ownB S2.sf S2.ad S2.fa (GA.raw bA .nil) (hr.mono (by decide)) pass0) (pe_op (op_ownB S2.sf S2.ad S2.fa (GA.raw bA .nil) (hr.mono (by decide)) pass0) (pv 2) (pv 3)) (pv 4)) (pe_op (op_ownB S2.sf S2.ad S2.fa (GA.raw bA .nil) (hr.mono (by decide)) pass0) (pv 2) (pe_op (op_ownB S2.sf S2.ad S2.fa (GA.raw bA .nil) (hr.mono (by decide)) pass0) (pv 3) (pv 4))) (nomark _))) (pw_or1 (pt_not (pt_cmpR (op_ownD (op := .Eq) (fun _ _ => rfl) S2.eq S2.fe (GE.raw bE .nil) (hr.mono (by decide)) pass0) (pe_op (op_ownB S2.sf S2.ad S2.fa (GA.raw bA .nil) (hr.mono (by decide)) pass0) (pv 2) (pe_op (op_ownB S2.sf S2.ad S2.fa (GA.raw bA .nil) (hr.mono (by decide)) pass0) (pv 4) (pv 3))) (pe_op (op_ownB S2.sf S2.ad S2.fa (GA.raw bA .nil) (hr.mono (by decide)) pass0) (pe_op (op_ownB S2.sf S2.ad S2.fa (GA.raw bA .nil) (hr.mono (by decide)) pass0) (pv 4) (pv 2)) (pv 3)) (nomark _))))))) (pss_one (ps_ret pe_bl)) pss_nil)
        (pss_cons (ps_if (PW.pt (pw_or (pt_not (pt_cmpR (op_ownD (op := .Eq) (fun _ _ => rfl) S2.eq S2.fe (GE.raw bE .nil) (hr.mono (by decide)) pass0) (pe_op (op_ownB S2.sf S2.ad S2.fa (GA.raw bA .nil) (hr.mono (by decide)) pass0) (pv 2) (pv 2)) (pv 2) (nomark _))) (pw_or (pt_not (pt_cmpR (op_ownD (op := .Eq) (fun _ _ => rfl) S2.eq S2.fe (GE.raw bE .nil) (hr.mono (by decide)) pass0) (pe_op (op_ownB S2.sf S2.ad S2.fa (GA.raw bA .nil) (hr.mono (by decide)) pass0) (pv 2) (pe_cmeth0 (pe_glob (v := .ref CV) (by rfl) gV rfl) CRV CMV_none (GV_none.raw bV_none .nil) (hr.mono (by decide)) pass0)) (pv 2) (nomark _))) (pw_or (pt_not (pt_cmpR (op_ownD (op := .Eq) (fun _ _ => rfl) S2.eq S2.fe (GE.raw bE .nil) (hr.mono (by decide)) pass0) (pe_op (op_ownB S2.sf S2.ad S2.fa (GA.raw bA .nil) (hr.mono (by decide)) pass0) (pe_cmeth0 (pe_glob (v := .ref CV) (by rfl) gV rfl) CRV CMV_none (GV_none.raw bV_none .nil) (hr.mono (by decide)) pass0) (pv 2)) (pv 2) (nomark _))) (pw_or1 (pt_not (pt_cmpR (op_ownD (op := .Eq) (fun _ _ => rfl) S2.eq S2.fe (GE.raw bE .nil) (hr.mono (by decide)) pass0) (pe_op (op_ownB S2.sf S2.ad S2.fa (GA.raw bA .nil) (hr.mono (by decide)) pass0) (pe_op (op_ownB S2.sf S2.ad S2.fa (GA.raw bA .nil) (hr.mono (by decide)) pass0) (pv 2) (pv 3)) (pv 2)) (pe_op (op_ownB S2.sf S2.ad S2.fa (GA.raw bA .nil) (hr.mono (by decide)) pass0) (pv 3) (pv 2)) (nomark _)))))))) (pss_one (ps_ret pe_bl)) pss_nil)
        (pss_cons (ps_if (PW.pt (pw_or (pt_cmpR op_ne (pe_cmpR (op_ownD (op := .Eq) (fun _ _ => rfl) S2.eq S2.fe (GE.raw bE .nil) (hr.mono (by decide)) pass0) (pv 2) (pv 3) (nomark _)) (pe_cmpR (op_eqD hr.units) (pe_ix ix_list (pv 0) pe_int (fun _ _ => rfl)) (pe_ix ix_list (pv 0) pe_int (fun _ _ => rfl)) (nomark _)) (nomark _)) (pw_or (pt_cmpR (op_ownD (op := .Eq) (fun _ _ => rfl) S2.eq S2.fe (GE.raw bE .nil) (hr.mono (by decide)) pass0) (pv 2) (pe_ix ix_list (pv 0) pe_int (fun _ _ => rfl)) (nomark _)) (pw_or1 (pt_cmpR (op_neD hr.units) (pe_call G_l_told (hr.mono (by decide)) (by rfl) D_l_told.g D_l_told.kp D_l_told.b .nil pass0 (pa_cons (pe_cmeth0 (pe_glob (v := .ref CV) (by rfl) gV rfl) CRV CMV_none (GV_none.raw bV_none .nil) (hr.mono (by decide)) pass0) pa_nil)) (pe_tup (pa_cons pe_int (pa_cons pe_int pa_nil))) (nomark _)))))) (pss_one (ps_ret pe_bl)) pss_nil)
        (pss_one (ps_ret (pe_cmpR (op_eqD hr.units) (pe_lc (own := [("_law_day", 6)]) (g := gName 6) (tt := tYes) rfl sc_l_sums.nd (pi_range1 (by rfl) T.range (pa_cons pe_int pa_nil)) (blkOk_by (N := N_l_sums) (sc := defScope s_l_sums) (by decide +kernel)) (fun _ _ _ _ _ => (pg_name (i := 6) sc_l_sums.nd rfl (Or.inl rfl))) (fun _ _ _ _ _ => pts_nil) (fun _ _ _ _ _ => (pe_meth (pe_ix (ix_listK (K := K) rfl) (pv 1) pe_int (fun _ _ => rfl)) SV.cl MV_on GV_on (hr.mono (by decide)) bV_on .nil passL (pa_cons (pv 6) pa_nil)))) (pe_lc (own := [("_law_day", 6)]) (g := gName 6) (tt := tYes) rfl sc_l_sums.nd (pi_range1 (by rfl) T.range (pa_cons pe_int pa_nil)) (blkOk_by (N := N_l_sums) (sc := defScope s_l_sums) (by decide +kernel)) (fun _ _ _ _ _ => (pg_name (i := 6) sc_l_sums.nd rfl (Or.inl rfl))) (fun _ _ _ _ _ => pts_nil) (fun _ _ _ _ _ => (pe_call G_l_word (hr.mono (by decide)) (by rfl) D_l_word.g D_l_word.kp D_l_word.b .nil pass0 (pa_cons (pe_ix (ix_listK (K := K) rfl) (pv 0) pe_int (fun _ _ => rfl)) (pa_cons (pv 6) pa_nil))))) (nomark _)))))))))), ?_⟩
    refine ⟨_, rfl, L, rfl, ⟨_, hl⟩, fun D hD => ?_⟩
    refine lc_each (K := K) (a := L) (xs := xs) (j := 5) [p0, p1, p2] (IsVer CV) hl hD he.1 (by rw [he.1]; show 3 ≤ 100000; decide) (fun _ _ _ _ r l k => r.but l k) (fun i x p H2 hx hp s2 Q' q' => ?_) (fun ys H2 s2 h2 e2 => ?_)
    · obtain ⟨a, rfl, ha, gp⟩ := (he.2 i x p hx hp).same s2
      refine ⟨_, rfl, _, _, _, _, rfl, rfl, SqT.of ha, rfl, _, rfl, _, _, _, _, rfl, rfl, SqT.of ha, rfl, fun o d2 ho hd ne => vinit_ok SV ho hd gp fun H3 s3 hV => q' _ _ s3 ⟨o, rfl, hV⟩⟩
    match xs, ys, he, e2, hl with
    | [x0, x1, x2], [y0, y1, y2], he, e2, hl =>
    obtain ⟨a0, rfl, ha0, g0⟩ := he.2 0 x0 p0 rfl rfl
    obtain ⟨a1, rfl, ha1, g1⟩ := he.2 1 x1 p1 rfl rfl
    obtain ⟨a2, rfl, ha2, g2⟩ := he.2 2 x2 p2 rfl rfl
    obtain ⟨u, rfl, hu⟩ := e2.2 0 y0 p0 rfl rfl
    obtain ⟨v, rfl, hv⟩ := e2.2 1 y1 p1 rfl rfl
    obtain ⟨w, rfl, hw⟩ := e2.2 2 y2 p2 rfl rfl
    have hu : VerP CV H2 u p0 := hu
    have hv : VerP CV H2 v p1 := hv
    have hw : VerP CV H2 w p2 := hw
    have he2 := he.mono fun x p r => r.same s2
    have hl2 := s2.seq hl
    have ha0 := s2 _ _ ha0
    have ha1 := s2 _ _ ha1
    have k := fun H' (s : Same H2 H') => k H' (s2.trans s)
    clear he hl ha2
    refine ⟨_, rfl, D, _, _, _, rfl, rfl, SqL.of h2, rfl, _, rfl, D, _, _, _, rfl, rfl, SqL.of h2, rfl, _, rfl, D, _, _, _, rfl, rfl, SqL.of h2, rfl, _, _, _, rfl, ?_⟩
    have two : ∀ H', Same H2 H' → Each IsPair H' [.ref a0, .ref a1] [p0, p1] := fun H' s => ⟨rfl, fun i x p hx hp => he2.2 i x p (by
      match i, hx with
      | 0, hx => exact hx
      | 1, hx => exact hx) (by
      match i, hp with
      | 0, hp => exact hp
      | 1, hp => exact hp) |>.same s⟩
    -- the first if
    refine ⟨_, rfl, _, rfl, addP hu hv fun z H3 nz s3 hz => ⟨.ref z, ad p0 p1, rfl, ⟨z, rfl, hz⟩, fun t ht => ⟨_, rfl, _, rfl, _, _, rfl, (s3.trans (same_new ht)).seq hl2, fun c hc => ?_⟩⟩⟩
    have s4 := (s3.trans (same_new (o := .tup [.int (ad p0 p1).1, .int (ad p0 p1).2]) ht)).trans (same_new (o := .lst (cutV [V.ref a0, V.ref a1, V.ref a2] none (some 2))) hc)
    refine ⟨c, [.ref a0, .ref a1], [p0, p1], rfl, SqL.of upd_same, two _ s4, by show 2 ≤ 1000; decide, fun t2 H4 nt s5 h5 => ne_prs (q := jp [p0, p1]) (s5 _ _ (same_new hc _ _ upd_same)) h5 ⟨_, rfl, iteNS (jp_two g0 g1).symm ?_⟩⟩
    have s5 := s4.trans s5
    clear s4 h5 nt hc ht hz s3 nz
    refine ⟨_, rfl, _, rfl, addP (hu.same s5) (hv.same s5) fun z1 H5 n1 s6 hz1 => ⟨_, rfl, _, rfl, addP (hv.same (s5.trans s6)) (hu.same (s5.trans s6)) fun z2 H6 n2 s7 hz2 => own_ver SV S2 (hz1.same s7) hz2 ⟨_, rfl, iteNS (ad_comm g0 g1) ?_⟩⟩⟩
    have s7 := (s5.trans s6).trans s7
    clear s5 s6 hz1 hz2 n1 n2
    refine ⟨_, rfl, .ref u, p0, rfl, ⟨u, rfl, hu.same s7⟩, fun t ht => ⟨_, rfl, L, _, _, _, rfl, rfl, (s7.trans (same_new ht)).seq hl2, rfl, ne_prs upd_same ((s7.trans (same_new ht)) _ _ ha0) ⟨_, rfl, iteNS rfl ?_⟩⟩⟩
    have s8 := s7.trans (same_new (o := .tup [.int p0.1, .int p0.2]) ht)
    clear s7 ht
    -- the second
    refine ⟨_, rfl, _, rfl, addP (hu.same s8) (hv.same s8) fun z H7 nz s9 hz => ⟨_, rfl, addP hz (hw.same (s8.trans s9)) fun y H8 ny s10 hy => ⟨.ref y, ad (ad p0 p1) p2, rfl, ⟨y, rfl, hy⟩, fun t ht => ?_⟩⟩⟩
    have s11 := ((s8.trans s9).trans s10).trans (same_new (o := .tup [.int (ad (ad p0 p1) p2).1, .int (ad (ad p0 p1) p2).2]) ht)
    refine ⟨_, rfl, L, _, [p0, p1, p2], rfl, s11.seq hl2, he2.mono fun x p r => r.same s11, by show 3 ≤ 1000; decide, fun t2 H9 nt s12 h12 => ne_prs (q := jp [p0, p1, p2]) (s12 _ _ upd_same) h12 ⟨_, rfl, iteNS (jp_three g0 g1 g2).symm ?_⟩⟩
    have s12 := s11.trans s12
    clear s8 s9 s10 s11 hz hy h12 nz ny nt ht
    refine ⟨_, rfl, _, rfl, addP (hu.same s12) (hv.same s12) fun z1 H10 n1 s13 hz1 => ⟨_, rfl, addP hz1 (hw.same (s12.trans s13)) fun z2 H11 n2 s14 hz2 => ?_⟩⟩
    have s14 := (s12.trans s13).trans s14
    refine ⟨_, rfl, _, rfl, _, rfl, addP (hv.same s14) (hw.same s14) fun z3 H12 n3 s15 hz3 => addP (hu.same (s14.trans s15)) hz3 fun z4 H13 n4 s16 hz4 => own_ver SV S2 (hz2.same (s15.trans s16)) hz4 ⟨_, rfl, iteNS (ad_assoc g0 g1 g2) ?_⟩⟩
    have s16 := (s14.trans s15).trans s16
    clear s12 s13 s14 s15 hz1 hz2 hz3 hz4 n1 n2 n3 n4
    refine ⟨_, rfl, _, rfl, _, rfl, addP (hw.same s16) (hv.same s16) fun z1 H14 n1 s17 hz1 => addP (hu.same (s16.trans s17)) hz1 fun z2 H15 n2 s18 hz2 => ?_⟩
    have s18 := (s16.trans s17).trans s18
    refine ⟨_, rfl, _, rfl, addP (hw.same s18) (hu.same s18) fun z3 H16 n3 s19 hz3 => ⟨_, rfl, addP hz3 (hv.same (s18.trans s19)) fun z4 H17 n4 s20 hz4 => own_ver SV S2 (hz2.same (s19.trans s20)) hz4 ⟨_, rfl, iteNS (by rw [ad_comm g2 g0, ad_assoc g0 g2 g1]) ?_⟩⟩⟩
    have s20 := (s18.trans s19).trans s20
    clear s16 s17 s18 s19 hz1 hz2 hz3 hz4 n1 n2 n3 n4
    -- the third if
    refine ⟨_, rfl, _, rfl, addP (hu.same s20) (hu.same s20) fun z1 H18 n1 s21 hz1 => ⟨_, rfl, own_ver SV S2 hz1 (hu.same (s20.trans s21)) ⟨_, rfl, iteNS (ad_self g0) ?_⟩⟩⟩
    have s21 := s20.trans s21
    refine ⟨_, rfl, rfl, rfl, fun z2 H19 n2 s22 hz2 => addP (q := (0, 0)) (hu.same (s21.trans s22)) hz2 fun z3 H20 n3 s23 hz3 => ⟨_, rfl, own_ver SV S2 hz3 (hu.same ((s21.trans s22).trans s23)) ⟨_, rfl, iteNS (ad_zero g0) ?_⟩⟩⟩
    have s23 := (s21.trans s22).trans s23
    clear s20 s21 s22 hz1 hz2 hz3 n1 n2 n3
    refine ⟨rfl, rfl, fun z2 H21 n2 s24 hz2 => ⟨_, rfl, addP (p := (0, 0)) hz2 (hu.same (s23.trans s24)) fun z3 H22 n3 s25 hz3 => ⟨_, rfl, own_ver SV S2 hz3 (hu.same ((s23.trans s24).trans s25)) ⟨_, rfl, iteNS (zero_ad g0) ?_⟩⟩⟩⟩
    have s25 := (s23.trans s24).trans s25
    clear s23 s24 hz2 hz3 n2 n3
    refine ⟨_, rfl, _, rfl, addP (hu.same s25) (hv.same s25) fun z1 H23 n1 s26 hz1 => ⟨_, rfl, addP hz1 (hu.same (s25.trans s26)) fun z2 H24 n2 s27 hz2 => ?_⟩⟩
    have s27 := (s25.trans s26).trans s27
    refine ⟨_, rfl, _, rfl, addP (hv.same s27) (hu.same s27) fun z3 H25 n3 s28 hz3 => own_ver SV S2 (hz2.same s28) hz3 ⟨_, rfl, iteNS (by rw [ad_comm g0 g1, ad_assoc g1 g0 g0, ad_self g0]) ?_⟩⟩
    have s28 := s27.trans s28
    clear s25 s26 s27 hz1 hz2 hz3 n1 n2 n3
    -- the fourth
    refine ⟨_, rfl, _, rfl, own_ver SV S2 (hu.same s28) (hv.same s28) ⟨_, rfl, L, _, _, _, rfl, rfl, s28.seq hl2, rfl, _, rfl, L, _, _, _, rfl, rfl, s28.seq hl2, rfl, eq_prs (s28 _ _ ha0) (s28 _ _ ha1) ⟨rfl, _, rfl, iteNS rfl ?_⟩⟩⟩
    refine ⟨_, rfl, _, rfl, L, _, _, _, rfl, rfl, s28.seq hl2, rfl, own_vtup S2 (hu.same s28) (s28 _ _ ha0) ⟨_, rfl, iteF ?_⟩⟩
    refine ⟨rfl, rfl, fun z H26 nz s29 hz => ⟨.ref z, (0, 0), rfl, ⟨z, rfl, hz⟩, fun t ht => ⟨by show 2 ≤ sizeLine; decide, fun t2 ht2 => ne_prs (p := (0, 0)) (q := (0, 0)) (same_new ht2 _ _ upd_same) upd_same ⟨_, rfl, iteNS rfl ?_⟩⟩⟩⟩
    have s30 := ((s28.trans s29).trans (same_new (o := .tup [V.int ((0 : Nat) : Int), V.int ((0 : Nat) : Int)]) ht)).trans (same_new (o := .tup [V.int 0, V.int 0]) ht2)
    clear s28 s29 hz nz
    -- day by day
    generalize e31 : (upd (upd H26 t (.tup [V.int ((0 : Nat) : Int), V.int ((0 : Nat) : Int)])) t2 (.tup [V.int 0, V.int 0])) = H27 at s30
    have oks : ∀ s ∈ (List.range 16).map (fun d => wordOf p1 d), PyData.strOk s = true := fun s hs => by
      obtain ⟨d, _, rfl⟩ := List.mem_map.mp hs
      unfold wordOf
      split
      · decide +kernel
      · split <;> decide +kernel
    have hat : ∀ (i : Nat) (y : V), (((List.range 16).map (fun d => wordOf p1 d)).map V.str)[i]? = some y → i < 16 ∧ y = V.str (wordOf p1 i) := fun i y hy => by
      rw [List.getElem?_map, List.getElem?_map] at hy
      by_cases hi : i < 16
      · rw [List.getElem?_range hi] at hy
        injection hy with hy
        exact ⟨hi, hy.symm⟩
      · rw [List.getElem?_eq_none (by rw [List.length_range]; omega)] at hy
        cases hy
    refine ⟨_, rfl, by decide, by decide, fun D1 hD1 => ?_⟩
    refine lc_mapR (n := 16) (ys := ((List.range 16).map (fun d => wordOf p1 d)).map V.str) hD1 (by rw [List.length_map, List.length_map, List.length_range]) (by decide) (fun i y H2' hy s2' Q' q' => ?_) (fun H28 s31 h31 => ?_)
    · obtain ⟨hi, rfl⟩ := hat i y hy
      have s' := s30.trans s2'
      obtain ⟨dxv, ev, gv⟩ := hv.same s'
      refine ⟨_, rfl, D, _, _, _, rfl, rfl, SqL.of (s' _ _ h2), rfl, v, dxv, _, rfl, ev, rfl, _, rfl, v, p1.1, p1.2, _, rfl, ⟨dxv, ev, gv⟩, .inl ⟨_, rfl⟩, fun z => ?_, fun d e hd => ?_⟩
      · exfalso
        have z' : (decide (0 ≤ 0 + (i : Int)) && decide (0 + (i : Int) ≤ 15)) = false := z
        simp at z'
        omega
      · have e' : 0 + (i : Int) = d := by injection e
        obtain rfl : i = d := by omega
        rw [verd_word g1]
        exact q' _ (Same.refl _)
    have s32 := s30.trans s31
    refine ⟨_, rfl, by decide, by decide, fun D2 hD2 => ?_⟩
    refine lc_mapR (n := 16) (ys := ((List.range 16).map (fun d => wordOf p1 d)).map V.str) hD2 (by rw [List.length_map, List.length_map, List.length_range]) (by decide) (fun i y H2' hy s2' Q' q' => ?_) (fun H29 s33 h33 => ?_)
    · obtain ⟨hi, rfl⟩ := hat i y hy
      have s' := s32.trans s2'
      exact ⟨_, rfl, L, _, _, _, rfl, rfl, s'.seq hl2, rfl, _, rfl, .ref a1, p1, i, by rw [Int.zero_add]; rfl, ⟨a1, rfl, s' _ _ ha1, g1⟩, q' _ (Same.refl _)⟩
    exact eq_strs oks (SqL.of (s33 _ _ h31)) (SqL.of h33) (k _ (s32.trans s33))
end
end My
set_option Elab.async false
set_option maxRecDepth 100000
set_option maxHeartbeats 8000000
namespace My
open PySem L2 ClX
theorem seq_of {t U : TS} {D : Ends} {σ : St} {H : Hp} (R : St → Hp → Prop) (k : ∀ nx : St → Hp → Prop, (∀ σ' H', R σ' H' → nx σ' H') → t { D with nx := nx } σ H) (h : ∀ σ' H', R σ' H' → U D σ' H') : tSeq t U D σ H := k _ h
theorem shp_ad {p q r : Pr} (hp : GpP p) (hq : GpP q) (hr : GpP r) (h : shp p q = true) : shp (ad p r) (ad q r) = true := by
  have hb := shp_bits.mp h
  refine shp_bits.mpr fun d => ?_
  have := hb d
  unfold bad at this ⊢
  rw [ad1 hp hr, ad1 hq hr, ad2, ad2]
  cases h1 : p.1.testBit d <;> cases h2 : q.1.testBit d <;> cases h3 : p.2.testBit d <;> cases h4 : q.2.testBit d <;> cases h5 : r.1.testBit d <;> cases h6 : r.2.testBit d <;> simp_all
theorem shp_anti {p q : Pr} (hp : GpP p) (hq : GpP q) : (shp p q && shp q p) = decide (p = q) := by
  by_cases e : p = q
  · subst e
    have : shp p p = true := shp_bits.mpr fun d => by unfold bad; cases p.1.testBit d <;> cases p.2.testBit d <;> rfl
    rw [this]; simp
  · rw [decide_eq_false e, Bool.and_eq_false_iff]
    cases h1 : shp p q with
    | false => exact .inl rfl
    | true =>
      right
      cases h2 : shp q p with
      | false => rfl
      | true =>
        exfalso
        refine e (pr_ext hp hq fun i _ => ?_)
        have a1 := shp_bits.mp h1 i
        have a2 := shp_bits.mp h2 i
        unfold bad at a1 a2
        cases h3 : p.1.testBit i <;> cases h4 : q.1.testBit i <;> cases h5 : p.2.testBit i <;> cases h6 : q.2.testBit i <;> simp_all
theorem shp_trans {p q r : Pr} (h1 : shp p q = true) (h2 : shp q r = true) : shp p r = true := shp_bits.mpr fun d => by
  have a1 := shp_bits.mp h1 d
  have a2 := shp_bits.mp h2 d
  unfold bad at a1 a2 ⊢
  cases h3 : p.1.testBit d <;> cases h4 : q.1.testBit d <;> cases h5 : p.2.testBit d <;> cases h6 : q.2.testBit d <;> cases h7 : r.1.testBit d <;> cases h8 : r.2.testBit d <;> simp_all
structure BtN (mg : Str → Option Value) : Prop where
  range : mg "range" = none
  len : mg "len" = none
def sp_l_order (K : PySem.W.Frag) : Sp := fun vs H Q _ => ∃ (a : Addr) (xs : List V) (p0 p1 p2 pb pw : Pr) (xb xw : V), vs = [.ref a, xb, xw] ∧ H a = some (.lst xs) ∧ Each IsPair H xs [p0, p1, p2] ∧ IsPair H xb pb ∧ IsPair H xw pw ∧ shp p0 pb = true ∧ shp pb pw = true ∧ ∀ H', Same H H' → Q (.bl true) H'
section
variable {P : Program} {w : World} {K : PySem.W.Frag} {mg : Str → Option Value} {base : Heap}
abbrev s_l_order : Stmt := top 33
abbrev N_l_order : List Str := ["_law_pairs", "_law_blunt", "_law_wide", "_law_made", "_law_all_pairs", "_law_k", "_law_m", "_law_told_here", "_law_pair_here"]
theorem sc_l_order : FnScope N_l_order ["_law_pairs", "_law_blunt", "_law_wide"] (defScope s_l_order) := ⟨rfl, rfl, rfl, by decide +kernel, rfl, by decide +kernel, by decide +kernel⟩
theorem ok_l_order {CV CB f fI fA fE fS fL : Addr} {fd fdI fdA fdS fdL : FuncData} (F : Fun K "_law_order" "_law_order" s_l_order f fd) (T : BtN mg) (SV : VerC K CV) (S2 : VerK K CV fE fA) (gV : mg "Verdicts" = some (.ref CV)) (MV : Mk K CV fI) (bIV : Binds K fdI ["self", "confirm", "broken"] [])
    (GIV : FnOk P w K mg base (L2.CX P w) 4 fI fdI ["self", "confirm", "broken"] (sp_vinit K CB)) (bA : Binds K fdA ["self", "other"] []) (GA : FnOk P w K mg base CX0 6 fA fdA ["self", "other"] (sp_add CV))
    (D_sharper : Df K mg "sharper" ["one", "other"] fS fdS) (G_sharper : FnOk P w K mg base CX0 3 fS fdS ["one", "other"] (sp_sharper CV)) (D_l_sharper : Df K mg "_law_sharper" ["_law_one", "_law_other"] fL fdL) (G_l_sharper : FnOk P w K mg base CX0 3 fL fdL ["_law_one", "_law_other"] sp_l_sharper) :
    FnOk P w K mg base CX0 7 f fd ["_law_pairs", "_law_blunt", "_law_wide"] (sp_l_order K) := by
  refine F.ok sc_l_order (fun vs H Q E h => ?_) (fun cdv A outer s H vs Q E hr h => ?_)
  · obtain ⟨a, xs, p0, p1, p2, pb, pw, xb, xw, rfl, _⟩ := h
    rfl
  · obtain ⟨L, xs, p0, p1, p2, pb, pw, xb, xw, rfl, hl, he, hb, hw, sb, sw, k⟩ := h
    have h5 : ∀ {H'}, Same H H' → Each IsPair H' (xs ++ [xb, xw]) [p0, p1, p2, pb, pw] := fun s => by
      have e := ((he.mono fun x p r => r.same s).snoc (hb.same s)).snoc (hw.same s)
      rw [List.append_assoc] at e
      exact e
    have gps : ∀ (i : Nat) (p : Pr), [p0, p1, p2, pb, pw][i]? = some p → GpP p := fun i p hp => by
      have e := h5 (Same.refl H)
      have hi : i < (xs ++ [xb, xw]).length := by rw [e.1]; exact (List.getElem?_eq_some_iff.mp hp).1
      obtain ⟨_, _, _, g⟩ := e.2 i _ p (List.getElem?_eq_getElem hi) hp
      exact g
    refine ⟨_, (pss_cons (ps_setLc (i := 3) (own := [("_law_pair_here", 8)]) (g := gName 8) (tt := tYes) rfl sc_l_order.nd rfl rfl (sw_true rfl rfl rfl (by decide +kernel)) (pi_list (pe_op op_cat (pv 0) (pe_lst (pa_cons (pv 1) (pa_cons (pv 2) pa_nil))))) (blkOk_by (N := N_l_order) (sc := defScope s_l_order) (by decide +kernel)) (fun _ _ _ _ _ => (pg_name (i := 8) sc_l_order.nd rfl (Or.inl rfl))) (fun _ _ _ _ _ => pts_nil) (fun _ _ _ _ _ => (pe_make MV GIV (hr.mono (by decide)) (by rfl) gV bIV .nil passL (pa_cons (pe_ix (ix_tupK (K := K) rfl) (pv 8) pe_int (fun _ _ => rfl)) (pa_cons (pe_ix (ix_tupK (K := K) rfl) (pv 8) pe_int (fun _ _ => rfl)) pa_nil)))))
        (pss_cons (ps_set (i := 4) sc_l_order.nd rfl (Or.inl rfl) (pe_op op_cat (pv 0) (pe_lst (pa_cons (pv 1) (pa_cons (pv 2) pa_nil)))))
        (pss_cons (ps_for PassesOwn.never rfl (pi_range1 (by rfl) T.range (pa_cons (pe_callB call_len_seq (by rfl) T.len (by decide +kernel) (pa_cons (pv 3) pa_nil)) pa_nil)) (pg_name (i := 5) sc_l_order.nd rfl (Or.inl rfl)) (pss_one (ps_for PassesOwn.never rfl (pi_range1 (by rfl) T.range (pa_cons (pe_callB call_len_seq (by rfl) T.len (by decide +kernel) (pa_cons (pv 3) pa_nil)) pa_nil)) (pg_name (i := 6) sc_l_order.nd rfl (Or.inl rfl)) (pss_cons (ps_set (i := 7) sc_l_order.nd rfl (Or.inl rfl) (pe_call G_sharper (hr.mono (by decide)) (by rfl) D_sharper.g D_sharper.kp D_sharper.b .nil pass0 (pa_cons (pe_ix ix_list (pv 3) (pv 5) (fun _ _ => rfl)) (pa_cons (pe_ix ix_list (pv 3) (pv 6) (fun _ _ => rfl)) pa_nil))))
        (pss_cons (ps_if (pt_cmpR op_ne (pv 7) (pe_call G_l_sharper (hr.mono (by decide)) (by rfl) D_l_sharper.g D_l_sharper.kp D_l_sharper.b .nil pass0 (pa_cons (pe_ix ix_list (pv 4) (pv 5) (fun _ _ => rfl)) (pa_cons (pe_ix ix_list (pv 4) (pv 6) (fun _ _ => rfl)) pa_nil))) (nomark _)) (pss_one (ps_ret pe_bl)) pss_nil)
        (pss_cons (ps_if (PW.pt (pw_and (pt_val (pv 7)) (pw_and1 (pt_not (pt_val (pe_call G_sharper (hr.mono (by decide)) (by rfl) D_sharper.g D_sharper.kp D_sharper.b .nil pass0 (pa_cons (pe_op (op_ownB S2.sf S2.ad S2.fa (GA.raw bA .nil) (hr.mono (by decide)) pass0) (pe_ix ix_list (pv 3) (pv 5) (fun _ _ => rfl)) (pe_ix ix_list (pv 3) pe_int (fun _ _ => rfl))) (pa_cons (pe_op (op_ownB S2.sf S2.ad S2.fa (GA.raw bA .nil) (hr.mono (by decide)) pass0) (pe_ix ix_list (pv 3) (pv 6) (fun _ _ => rfl)) (pe_ix ix_list (pv 3) pe_int (fun _ _ => rfl))) pa_nil)))))))) (pss_one (ps_ret pe_bl)) pss_nil)
        (pss_one (ps_if (pt_cmpR op_ne (pe_and (pv 7) (pe_one (pe_call G_sharper (hr.mono (by decide)) (by rfl) D_sharper.g D_sharper.kp D_sharper.b .nil pass0 (pa_cons (pe_ix ix_list (pv 3) (pv 6) (fun _ _ => rfl)) (pa_cons (pe_ix ix_list (pv 3) (pv 5) (fun _ _ => rfl)) pa_nil))))) (pe_cmpR (op_eqD hr.units) (pe_ix ix_list (pv 4) (pv 5) (fun _ _ => rfl)) (pe_ix ix_list (pv 4) (pv 6) (fun _ _ => rfl)) (nomark _)) (nomark _)) (pss_one (ps_ret pe_bl)) pss_nil))))))))
        (pss_one (ps_ret (pe_and (pe_call G_sharper (hr.mono (by decide)) (by rfl) D_sharper.g D_sharper.kp D_sharper.b .nil pass0 (pa_cons (pe_ix ix_list (pv 3) pe_int (fun _ _ => rfl)) (pa_cons (pe_ix ix_list (pv 3) pe_int (fun _ _ => rfl)) pa_nil))) (pe_and (pe_call G_sharper (hr.mono (by decide)) (by rfl) D_sharper.g D_sharper.kp D_sharper.b .nil pass0 (pa_cons (pe_ix ix_list (pv 3) pe_int (fun _ _ => rfl)) (pa_cons (pe_ix ix_list (pv 3) pe_int (fun _ _ => rfl)) pa_nil))) (pe_one (pe_call G_sharper (hr.mono (by decide)) (by rfl) D_sharper.g D_sharper.kp D_sharper.b .nil pass0 (pa_cons (pe_ix ix_list (pv 3) pe_int (fun _ _ => rfl)) (pa_cons (pe_ix ix_list (pv 3) pe_int (fun _ _ => rfl)) pa_nil))))))))))), ?_⟩
    have len3 : xs.length = 3 := he.1
    refine ⟨_, rfl, _, rfl, _, rfl, by show 2 ≤ sizeLine; decide, fun B hB => ⟨L, B, xs, [xb, xw], rfl, rfl, same_new hB _ _ hl, upd_same, by rw [len3]; show 5 ≤ sizeLine; decide, fun c hc => ?_⟩⟩
    have s1 := (same_new (o := .lst [xb, xw]) hB).trans (same_new (o := .lst (xs ++ [xb, xw])) hc)
    refine ⟨c, rfl, ⟨_, SqL.of upd_same⟩, fun D hD => ?_⟩
    refine lc_each (K := K) (a := c) (xs := xs ++ [xb, xw]) (j := 8) [p0, p1, p2, pb, pw] (IsVer CV) (SqL.of upd_same) hD (h5 (Same.refl H)).1 (by rw [(h5 (Same.refl H)).1]; show 5 ≤ 100000; decide) (fun _ _ _ _ r l k => r.but l k) (fun i x p H2 hx hp s2 Q' q' => ?_) (fun ys H2 s2 h2 e2 => ?_)
    · obtain ⟨a, rfl, ha, gp⟩ := (h5 (s1.trans s2)).2 i x p hx hp
      refine ⟨_, rfl, _, _, _, _, rfl, rfl, SqT.of ha, rfl, _, rfl, _, _, _, _, rfl, rfl, SqT.of ha, rfl, fun o d2 ho hd ne => vinit_ok SV ho hd gp fun H3 s3 hV => q' _ _ s3 ⟨o, rfl, hV⟩⟩
    have s2 := s1.trans s2
    clear s1 hB hc hD
    try dsimp only [gName]
    refine ⟨_, rfl, _, rfl, _, rfl, by show 2 ≤ sizeLine; decide, fun B hB => ⟨L, B, xs, [xb, xw], rfl, rfl, same_new hB _ _ (s2 _ _ hl), upd_same, by rw [len3]; show 5 ≤ sizeLine; decide, fun A hA => ?_⟩⟩
    have s3 := (same_new (o := .lst [xb, xw]) hB).trans (same_new (o := .lst (xs ++ [xb, xw])) hA)
    have hA3 : (upd (upd H2 B (.lst [xb, xw])) A (.lst (xs ++ [xb, xw]))) A = some (.lst (xs ++ [xb, xw])) := upd_same
    generalize (upd (upd H2 B (.lst [xb, xw])) A (.lst (xs ++ [xb, xw]))) = H3 at s3 hA3
    have h3 := s3 _ _ h2
    have s30 := s2.trans s3
    have eV : ∀ {H'}, Same H3 H' → Each (IsVer CV) H' ys [p0, p1, p2, pb, pw] := fun s => e2.mono fun x p r => r.same (s3.trans s)
    have eP : ∀ {H'}, Same H3 H' → Each IsPair H' (xs ++ [xb, xw]) [p0, p1, p2, pb, pw] := fun s => h5 (s30.trans s)
    have ly : ys.length = 5 := e2.1
    have lx : (xs ++ [xb, xw]).length = 5 := (h5 (Same.refl H)).1
    have gety : ∀ i, i < 5 → ∃ y p, ys[i]? = some y ∧ [p0, p1, p2, pb, pw][i]? = some p ∧ ∃ x, (xs ++ [xb, xw])[i]? = some x := fun i hi =>
      ⟨_, _, List.getElem?_eq_getElem (by omega), List.getElem?_eq_getElem (show i < 5 from hi), _, List.getElem?_eq_getElem (by omega)⟩
    clear e2 s2 s3 hB hA h2
    refine ⟨_, rfl, D, _, rfl, .inl (SqL.of h3), ?_⟩
    rw [ly]
    refine ⟨_, rfl, by decide, by decide, for_range (lo := 0) (n := 5) (fun i σ H' => Same H3 H' ∧ ∃ u5 u6 u7 u8, σ = [some (.ref L), some xb, some xw, some (.ref D), some (.ref A), u5, u6, u7, u8]) ⟨Same.refl H3, _, _, _, _, rfl⟩ ?_ ?_⟩
    · rintro i σ H4 hi ⟨s4, u5, u6, u7, u8, rfl⟩
      refine ⟨_, rfl, D, _, rfl, .inl (SqL.of (s4 _ _ h3)), ?_⟩
      rw [ly]
      refine ⟨_, rfl, by decide, by decide, for_range (lo := 0) (n := 5) (fun m σ H' => Same H3 H' ∧ ∃ u6 u7 u8, σ = [some (.ref L), some xb, some xw, some (.ref D), some (.ref A), some (.int (0 + (i : Int))), u6, u7, u8]) ⟨s4, _, _, _, rfl⟩ ?_ ?_⟩
      · rintro m σ H5 hm ⟨s5, u6, u7, u8, rfl⟩
        obtain ⟨yi, qi, hyi, hqi, xi, hxi⟩ := gety i hi
        obtain ⟨ym, qm, hym, hqm, xm, hxm⟩ := gety m hm
        obtain ⟨y1, q1, hy1, hq1, x1, hx1⟩ := gety 1 (by decide)
        have gi := gps i qi hqi
        have gm := gps m qm hqm
        have g1 := gps 1 q1 hq1
        rw [Int.zero_add, Int.zero_add]
        have hD5 := s5 _ _ h3
        have hA5 := s5 _ _ hA3
        have atI := atI_nat (j := i) hyi
        have atM := atI_nat (j := m) hym
        have at1 := atI_nat (j := 1) hy1
        refine ⟨_, rfl, _, rfl, D, _, _, _, rfl, rfl, SqL.of hD5, atI, _, rfl, _, rfl, D, _, _, _, rfl, rfl, SqL.of hD5, atM, yi, ym, qi, qm, rfl, (eV s5).2 i yi qi hyi hqi, (eV s5).2 m ym qm hym hqm, ?_⟩
        refine ⟨_, rfl, _, rfl, _, rfl, A, _, _, _, rfl, rfl, SqL.of hA5, atI_nat (j := i) hxi, _, rfl, _, rfl, A, _, _, _, rfl, rfl, SqL.of hA5, atI_nat (j := m) hxm, xi, xm, qi, qm, rfl, (eP s5).2 i xi qi hxi hqi, (eP s5).2 m xm qm hxm hqm, rfl, _, rfl, iteNS rfl ?_⟩
        try dsimp only [tNext]
        refine seq_of (fun σ' H' => Same H3 H' ∧ ∃ u8, σ' = [some (.ref L), some xb, some xw, some (.ref D), some (.ref A), some (.int (i : Int)), some (.int (m : Int)), some (.bl (shp qi qm)), u8]) (fun nx hnx => ?_) fun σ' H6 ⟨s6, u8', eσ⟩ => ?_
        · refine ⟨_, rfl, _, rfl, ?_⟩
          cases hsh : shp qi qm with
          | false => exact iteF (hnx _ _ ⟨s5, _, by rw [hsh]; rfl⟩)
          | true =>
            obtain ⟨ai, rfl, hvi⟩ := (eV s5).2 i yi qi hyi hqi
            obtain ⟨am, rfl, hvm⟩ := (eV s5).2 m ym qm hym hqm
            obtain ⟨a1, rfl, hv1⟩ := (eV s5).2 1 y1 q1 hy1 hq1
            have hvi : VerP CV H5 ai qi := hvi
            have hvm : VerP CV H5 am qm := hvm
            have hv1 : VerP CV H5 a1 q1 := hv1
            refine iteT ⟨_, rfl, _, rfl, D, _, _, _, rfl, rfl, SqL.of hD5, atI, _, rfl, D, _, _, _, rfl, rfl, SqL.of hD5, at1, addP hvi hv1 fun z H6 nz s6 hz => ?_⟩
            have hD6 := s6 _ _ hD5
            refine ⟨_, rfl, _, rfl, D, _, _, _, rfl, rfl, SqL.of hD6, atM, _, rfl, D, _, _, _, rfl, rfl, SqL.of hD6, at1, addP (hvm.same s6) (hv1.same s6) fun z2 H7 n2 s7 hz2 => ⟨.ref z, .ref z2, ad qi q1, ad qm q1, rfl, ⟨z, rfl, hz.same s7⟩, ⟨z2, rfl, hz2⟩, _, rfl, ?_⟩⟩
            rw [shp_ad gi gm g1 hsh]
            exact iteF (hnx _ _ ⟨(s5.trans s6).trans s7, _, by rw [hsh]; rfl⟩)
        subst eσ
        have hD6 := s6 _ _ h3
        have hA6 := s6 _ _ hA3
        have an := shp_anti gi gm
        obtain ⟨bi, rfl, hbi, _⟩ := (eP s6).2 i xi qi hxi hqi
        obtain ⟨bm, rfl, hbm, _⟩ := (eP s6).2 m xm qm hxm hqm
        refine ⟨_, rfl, _, rfl, ?_⟩
        cases hsh : shp qi qm with
        | true =>
          rw [hsh, Bool.true_and] at an
          exact iteT ⟨_, rfl, _, rfl, D, _, _, _, rfl, rfl, SqL.of hD6, atM, _, rfl, _, rfl, D, _, _, _, rfl, rfl, SqL.of hD6, atI, ym, yi, qm, qi, rfl, (eV s6).2 m ym qm hym hqm, (eV s6).2 i yi qi hyi hqi,
            _, rfl, _, rfl, A, _, _, _, rfl, rfl, SqL.of hA6, atI_nat (j := i) hxi, _, rfl, _, rfl, A, _, _, _, rfl, rfl, SqL.of hA6, atI_nat (j := m) hxm, eq_prs hbi hbm ⟨rfl, _, rfl, iteNS (congrArg V.bl an) ⟨s6, _, _, _, rfl⟩⟩⟩
        | false =>
          rw [hsh, Bool.false_and] at an
          exact iteF ⟨_, rfl, _, rfl, A, _, _, _, rfl, rfl, SqL.of hA6, atI_nat (j := i) hxi, _, rfl, _, rfl, A, _, _, _, rfl, rfl, SqL.of hA6, atI_nat (j := m) hxm, eq_prs hbi hbm ⟨rfl, _, rfl, iteNS (congrArg V.bl an) ⟨s6, _, _, _, rfl⟩⟩⟩
      · rintro σ H5 ⟨s5, u6, u7, u8, rfl⟩
        exact ⟨s5, _, _, _, _, rfl⟩
    · rintro σ H4 ⟨s4, u5, u6, u7, u8, rfl⟩
      obtain ⟨y0, q0, hy0, hq0, _⟩ := gety 0 (by decide)
      obtain ⟨y3, q3, hy3, hq3, _⟩ := gety 3 (by decide)
      obtain ⟨y4, q4, hy4, hq4, _⟩ := gety 4 (by decide)
      have i0 := (eV s4).2 0 y0 q0 hy0 hq0
      have i3 := (eV s4).2 3 y3 q3 hy3 hq3
      have i4 := (eV s4).2 4 y4 q4 hy4 hq4
      injection hq0 with hq0
      injection hq3 with hq3
      injection hq4 with hq4
      subst hq0 hq3 hq4
      have hD4 := s4 _ _ h3
      refine ⟨_, rfl, D, _, _, _, rfl, rfl, SqL.of hD4, atI_nat (j := 0) hy0, _, rfl, D, _, _, _, rfl, rfl, SqL.of hD4, atI_nat (j := 3) hy3, y0, y3, p0, pb, rfl, i0, i3, _, rfl, ?_⟩
      rw [sb]
      refine iteT ⟨_, rfl, D, _, _, _, rfl, rfl, SqL.of hD4, atI_nat (j := 3) hy3, _, rfl, D, _, _, _, rfl, rfl, SqL.of hD4, atI_nat (j := 4) hy4, y3, y4, pb, pw, rfl, i3, i4, _, rfl, ?_⟩
      rw [sw]
      refine iteT ⟨_, rfl, D, _, _, _, rfl, rfl, SqL.of hD4, atI_nat (j := 0) hy0, _, rfl, D, _, _, _, rfl, rfl, SqL.of hD4, atI_nat (j := 4) hy4, y0, y4, p0, pw, rfl, i0, i4, ?_⟩
      rw [shp_trans sb sw]
      exact k _ (s30.trans s4)
end
end My
set_option Elab.async false
set_option maxRecDepth 100000
set_option maxHeartbeats 8000000
namespace My
open PySem L2 ClX
theorem at_of {xs : List V} {i : Int} {j : Nat} {v : V} (e : i = (j : Int)) (h : xs[j]? = some v) : atI xs i = some v := by rw [e]; exact atI_nat h
theorem parts_ok {c b : Nat} {u : Bool} (hc : c < 65536) (hb : b < 65536) (e : c &&& b = 0) (h : 1 ≤ c ||| b) : partsWord (.int c) (.int b) (.bl u) = none := by
  have h1 : ¬ whole 0 65535 (.int (c : Int)) = false := by
    show ¬ (decide (0 ≤ (c : Int)) && decide ((c : Int) ≤ 65535)) = false
    simp; omega
  have h2 : ¬ whole 0 65535 (.int (b : Int)) = false := by
    show ¬ (decide (0 ≤ (b : Int)) && decide ((b : Int) ≤ 65535)) = false
    simp; omega
  have h3 : ¬ Builtin.bitAnd (c : Int) (b : Int) ≠ 0 := by rw [and_cast, e]; decide
  have h4 : ¬ (c : Int) + b = 0 := fun k => by
    have := (or_zero (c := c) (b := b)).mpr (by omega)
    omega
  unfold partsWord
  rw [if_neg h1, if_neg h2]
  dsimp only
  rw [if_neg h3, if_neg h4]
  rfl
theorem pair_back {c e : Nat} (g : Gp c e) : (c ||| e) &&& c = c ∧ brk (c ||| e) c = e := by
  have hc := g.2.1
  have he := g.2.2
  constructor
  · refine Nat.eq_of_testBit_eq fun i => ?_
    rw [Nat.testBit_and, Nat.testBit_or]
    cases c.testBit i <;> cases e.testBit i <;> rfl
  · refine Nat.eq_of_testBit_eq fun i => ?_
    rw [brk_bit (or_lt hc he), Nat.testBit_or]
    have := gp_bit g i
    cases h1 : c.testBit i <;> cases h2 : e.testBit i <;> simp_all
theorem of_pair_ok {K : PySem.W.Frag} {CS CB : Addr} {H : Hp} {Q : VK} {E : XK} {c e : Nat} {u : Bool} (g : Gp c e) (h : 1 ≤ c ||| e) (q : ∀ (a : Addr) (H' : Hp), H a = none → Same H H' → IsSay CS H' (.ref a) (c, e) → Q (.ref a) H') :
    sp_of_days K CS CB [.ref CS, .int c, .int e, .bl u] H Q E := by
  refine ⟨_, _, _, rfl, .inl ⟨_, rfl⟩, .inl ⟨_, rfl⟩, .inr (.inl ⟨_, rfl⟩), fun s z => ?_, fun c' b u' e1 e2 e3 e4 e5 => ?_⟩
  · rw [parts_ok g.2.1 g.2.2 g.1 h] at z
    cases z
  · injection e1 with e1
    injection e2 with e2
    injection e3 with e3
    obtain rfl : c = c' := by omega
    obtain rfl : e = b := by omega
    subst e3
    intro a H' n s hS
    refine q a H' n s ⟨a, _, _, _, rfl, hS, ?_⟩
    rw [(pair_back g).1, (pair_back g).2]
theorem jp_mem {ps qs : List Pr} (h : ∀ p, p ∈ ps ↔ p ∈ qs) : jp ps = jp qs := by
  have eC : ∀ d, anyC ps d = anyC qs d := fun d => by
    unfold anyC
    rw [Bool.eq_iff_iff, List.any_eq_true, List.any_eq_true]
    exact ⟨fun ⟨p, hp, z⟩ => ⟨p, (h p).mp hp, z⟩, fun ⟨p, hp, z⟩ => ⟨p, (h p).mpr hp, z⟩⟩
  have eB : ∀ d, anyB ps d = anyB qs d := fun d => by
    unfold anyB
    rw [Bool.eq_iff_iff, List.any_eq_true, List.any_eq_true]
    exact ⟨fun ⟨p, hp, z⟩ => ⟨p, (h p).mp hp, z⟩, fun ⟨p, hp, z⟩ => ⟨p, (h p).mpr hp, z⟩⟩
  unfold jp jC jB
  simp only [eC, eB]
theorem Each.rev {α : Type} {R : Hp → V → α → Prop} {H : Hp} {xs : List V} {ps : List α} (h : Each R H xs ps) : Each R H xs.reverse ps.reverse := by
  refine ⟨by rw [List.length_reverse, List.length_reverse, h.1], fun i x p hx hp => ?_⟩
  have hi : i < xs.length := by
    have := (List.getElem?_eq_some_iff.mp hx).1
    rw [List.length_reverse] at this
    exact this
  rw [List.getElem?_reverse hi] at hx
  rw [List.getElem?_reverse (by rw [← h.1]; exact hi), ← h.1] at hp
  exact h.2 _ x p hx hp
theorem Each.app {α : Type} {R : Hp → V → α → Prop} {H : Hp} {xs zs : List V} {ps qs : List α} (h : Each R H xs ps) (k : Each R H zs qs) : Each R H (xs ++ zs) (ps ++ qs) := by
  refine ⟨by rw [List.length_append, List.length_append, h.1, k.1], fun i x p hx hp => ?_⟩
  by_cases hi : i < xs.length
  · rw [List.getElem?_append_left hi] at hx
    rw [List.getElem?_append_left (by rw [← h.1]; exact hi)] at hp
    exact h.2 i x p hx hp
  · rw [List.getElem?_append_right (by omega)] at hx
    rw [List.getElem?_append_right (by rw [← h.1]; omega), ← h.1] at hp
    exact k.2 _ x p hx hp
theorem Each.take {α : Type} {R : Hp → V → α → Prop} {H : Hp} {xs : List V} {ps : List α} (h : Each R H xs ps) (n : Nat) : Each R H (xs.take n) (ps.take n) := by
  refine ⟨by rw [List.length_take, List.length_take, h.1], fun i x p hx hp => ?_⟩
  rw [List.getElem?_take] at hx hp
  split at hx
  · rename_i hi
    rw [if_pos hi] at hp
    exact h.2 i x p hx hp
  · cases hx
theorem Each.rep {α : Type} {R : Hp → V → α → Prop} {H : Hp} {xs : List V} {ps : List α} (h : Each R H xs ps) : ∀ n : Nat, Each R H (List.replicate n xs).flatten (List.replicate n ps).flatten
  | 0 => Each.nil
  | n + 1 => by
    rw [List.replicate_succ, List.replicate_succ, List.flatten_cons, List.flatten_cons]
    exact h.app (h.rep n)
theorem cut_take (xs : List V) (n : Nat) : cutV xs none (some (n : Int)) = xs.take n := by
  unfold cutV
  rw [HT.sIx_none, List.drop_zero, HT.sIx_nat, Nat.sub_zero]
  by_cases h : n ≤ xs.length
  · rw [Nat.min_eq_left h]
  · rw [Nat.min_eq_right (by omega), List.take_length, List.take_of_length_le (by omega)]
theorem IsSay.but {C D : Addr} {H1 H2 : Hp} {x : V} {p : Pr} (h : IsSay C H1 x p) (hD : ∃ l, H1 D = some (.lst l)) (k : But D H1 H2) : IsSay C H2 x p := by
  obtain ⟨a, w, t, u, e, ⟨dx, ha, r⟩, ep⟩ := h
  obtain ⟨l, hl⟩ := hD
  refine ⟨a, w, t, u, e, ⟨dx, k a _ (fun z => ?_) ha, r⟩, ep⟩
  rw [z, hl] at ha
  cases ha
theorem IsPair.but {D : Addr} {H1 H2 : Hp} {x : V} {p : Pr} (h : IsPair H1 x p) (hD : ∃ l, H1 D = some (.lst l)) (k : But D H1 H2) : IsPair H2 x p := by
  obtain ⟨a, e, ha, g⟩ := h
  obtain ⟨l, hl⟩ := hD
  refine ⟨a, e, k a _ (fun z => ?_) ha, g⟩
  rw [z, hl] at ha
  cases ha
/-- the 1000 -/
theorem many_mem {ps : List Pr} (h0 : 0 < ps.length) (h : ps.length ≤ 8) (p : Pr) : p ∈ ((List.replicate 500 ps).flatten.take 1000) ↔ p ∈ ps := by
  constructor
  · intro z
    have z := List.mem_of_mem_take z
    obtain ⟨l, hl, z⟩ := List.mem_flatten.mp z
    rw [List.eq_of_mem_replicate hl] at z
    exact z
  · intro z
    rw [show (500 : Nat) = 499 + 1 from rfl, List.replicate_succ, List.flatten_cons, List.take_append]
    exact List.mem_append_left _ (by rw [List.take_of_length_le (by omega)]; exact z)
theorem bag_ne {H : Hp} {a b : Addr} {o : HO} (h : Bag H b) (n : a ≠ b) : Bag (upd H a o) b := by
  obtain ⟨c, m, k, e, r⟩ := h
  exact ⟨c, m, k, by rw [upd_ne (Ne.symm n)]; exact e, r⟩
theorem But.fresh {b S : Addr} {H H1 : Hp} {o : HO} (k : But b H H1) (h : H S = none) : But b H (L2.upd H1 S o) := fun a u na e => by
  rw [upd_ne (ne_of_none e h)]
  exact k a u na e
theorem Bag.lst {H : Hp} {b : Addr} (h : Bag H b) : ∃ l, H b = some (.lst l) := by
  obtain ⟨c, m, k, e, _⟩ := h
  exact ⟨_, e⟩
structure BtJ (mg : Str → Option Value) : Prop where
  range : mg "range" = none
  len : mg "len" = none
  tuple : mg "tuple" = none
def sp_l_joined : Sp := fun vs H Q _ => ∃ (b : Addr) (n : Nat), vs = [.ref b, .int n] ∧ Bag H b ∧ n ≤ 16 ∧ ∀ H', Bag H' b → But b H H' → Q (.bl true) H'
section
variable {P : Program} {w : World} {K : PySem.W.Frag} {mg : Str → Option Value} {base : Heap}
abbrev s_l_joined : Stmt := top 34
abbrev N_l_joined : List Str := ["_law_bag_here", "_law_days", "_law_sayings", "_law_pairs", "_law_k", "_law_confirm", "_law_broken", "_law_saying", "_law_turned"]
theorem sc_l_joined : FnScope N_l_joined ["_law_bag_here", "_law_days"] (defScope s_l_joined) := ⟨rfl, rfl, rfl, by decide +kernel, rfl, by decide +kernel, by decide +kernel⟩
theorem ok_l_joined {CS CV CB pO pN f fO fE fA fN fT fP fV fJ fS fL : Addr} {fd fdO fdE fdN fdT fdP fdV fdJ fdS fdL : FuncData} {mcS mcV : Value} (F : Fun K "_law_joined" "_law_joined" s_l_joined f fd) (T : BtJ mg) (SV : VerC K CV) (S2 : VerK K CV fE fA) (gS : mg "Saying" = some (.ref CS)) (gV : mg "Verdicts" = some (.ref CV))
    (CRS : CRead K CS mcS) (CMS_of_days : CMet K CS mcS "of_days" pO fO) (bS_of_days : Binds K fdO ["cls", "confirm", "broken", "usual"] []) (GS_of_days : FnOk P w K mg base (L2.CX P w) 6 fO fdO ["cls", "confirm", "broken", "usual"] (sp_of_days K CS CB))
    (CRV : CRead K CV mcV) (CMV_none : CMet K CV mcV "none" pN fN) (bV_none : Binds K fdN ["cls"] []) (GV_none : FnOk P w K mg base CX0 6 fN fdN ["cls"] (sp_none CV)) (bE : Binds K fdE ["self", "other"] []) (GE : FnOk P w K mg base CX0 2 fE fdE ["self", "other"] (sp_veq K CV))
    (D_l_take : Df K mg "_law_take" ["_law_bag_here", "_law_many"] fT fdT) (G_l_take : FnOk P w K mg base CX0 2 fT fdT ["_law_bag_here", "_law_many"] sp_l_take) (D_l_pair : Df K mg "_law_pair" ["_law_bag_here", "_law_days"] fP fdP) (G_l_pair : FnOk P w K mg base CX0 4 fP fdP ["_law_bag_here", "_law_days"] sp_l_pair)
    (D_verdicts_of : Df K mg "verdicts_of" ["saying"] fV fdV) (G_verdicts_of : FnOk P w K mg base CX0 6 fV fdV ["saying"] (sp_verdicts_of CS CV)) (D_joined : Df K mg "joined" ["sayings"] fJ fdJ) (G_joined : FnOk P w K mg base CX0 7 fJ fdJ ["sayings"] (sp_joined K false CS CV)) (G_joinedT : FnOk P w K mg base CX0 7 fJ fdJ ["sayings"] (sp_joined K true CS CV))
    (D_l_sum : Df K mg "_law_sum" ["_law_pairs"] fS fdS) (G_l_sum : FnOk P w K mg base CX0 3 fS fdS ["_law_pairs"] (sp_l_sum K)) (D_l_told : Df K mg "_law_told" ["_law_verdicts"] fL fdL) (G_l_told : FnOk P w K mg base CX0 2 fL fdL ["_law_verdicts"] (sp_l_told CV)) :
    FnOk P w K mg base CX0 8 f fd ["_law_bag_here", "_law_days"] sp_l_joined := by
  refine F.ok sc_l_joined (fun vs H Q E h => ?_) (fun cdv A outer s H vs Q E hr h => ?_)
  · obtain ⟨b, n, rfl, _⟩ := h
    rfl
  · obtain ⟨b, n, rfl, hB, hn, k⟩ := h
    refine ⟨_, (pss_cons (ps_asg (pe_tup (pa_cons (pe_lst pa_nil) (pa_cons (pe_lst pa_nil) pa_nil))) (pg_tup rfl (pgs_cons (pg_name (i := 2) sc_l_joined.nd rfl (Or.inr rfl)) (pgs_cons (pg_name (i := 3) sc_l_joined.nd rfl (Or.inl rfl)) pgs_nil))))
        (pss_cons (ps_for PassesOwn.never rfl (pi_range1 (by rfl) T.range (pa_cons (pe_call G_l_take (hr.mono (by decide)) (by rfl) D_l_take.g D_l_take.kp D_l_take.b .nil pass0 (pa_cons (pv 0) (pa_cons pe_int pa_nil))) pa_nil)) (pg_name (i := 4) sc_l_joined.nd rfl (Or.inl rfl)) (pss_cons (ps_asg (pe_call G_l_pair (hr.mono (by decide)) (by rfl) D_l_pair.g D_l_pair.kp D_l_pair.b .nil pass0 (pa_cons (pv 0) (pa_cons (pv 1) pa_nil))) (pg_tup rfl (pgs_cons (pg_name (i := 5) sc_l_joined.nd rfl (Or.inl rfl)) (pgs_cons (pg_name (i := 6) sc_l_joined.nd rfl (Or.inl rfl)) pgs_nil))))
        (pss_cons (ps_if (pt_cmpR op_eq (pe_op op_add (pv 5) (pv 6)) pe_int (nomark _)) (pss_one (ps_set (i := 6) sc_l_joined.nd rfl (Or.inl rfl) pe_int)) pss_nil)
        (pss_cons (ps_set (i := 7) sc_l_joined.nd rfl (Or.inl rfl) (pe_cmeth (pe_glob (v := .ref CS) (by rfl) gS rfl) CRS CMS_of_days (GS_of_days.raw bS_of_days .nil) (hr.mono (by decide)) passL (pa_cons (pv 5) (pa_cons (pv 6) (pa_cons (pe_cmpR op_gt (pe_call G_l_take (hr.mono (by decide)) (by rfl) D_l_take.g D_l_take.kp D_l_take.b .nil pass0 (pa_cons (pv 0) (pa_cons pe_int pa_nil))) pe_int (nomark _)) pa_nil)))))
        (pss_cons (ps_if (pt_cmpR (op_neD hr.units) (pe_call G_l_told (hr.mono (by decide)) (by rfl) D_l_told.g D_l_told.kp D_l_told.b .nil pass0 (pa_cons (pe_call G_verdicts_of (hr.mono (by decide)) (by rfl) D_verdicts_of.g D_verdicts_of.kp D_verdicts_of.b .nil pass0 (pa_cons (pv 7) pa_nil)) pa_nil)) (pe_tup (pa_cons (pv 5) (pa_cons (pv 6) pa_nil))) (nomark _)) (pss_one (ps_ret pe_bl)) pss_nil)
        (pss_cons (ps_expr (pe_bm PySem.F.plainAttrs_list PySem.F.slot_list_append PySem.F.type_list_append mt_append (pv 2) (pa_cons (pv 7) pa_nil)))
        (pss_one (ps_expr (pe_bm PySem.F.plainAttrs_list PySem.F.slot_list_append PySem.F.type_list_append mt_append (pv 3) (pa_cons (pe_tup (pa_cons (pv 5) (pa_cons (pv 6) pa_nil))) pa_nil))))))))))
        (pss_cons (ps_set (i := 8) sc_l_joined.nd rfl (Or.inl rfl) (pe_op op_cat (pe_lc (own := [("_law_k", 4)]) (g := gName 4) (tt := tYes) rfl sc_l_joined.nd (pi_range1 (by rfl) T.range (pa_cons (pe_callB call_len_seq (by rfl) T.len (by decide +kernel) (pa_cons (pv 2) pa_nil)) pa_nil)) (blkOk_by (N := N_l_joined) (sc := defScope s_l_joined) (by decide +kernel)) (fun _ _ _ _ _ => (pg_name (i := 4) sc_l_joined.nd rfl (Or.inl rfl))) (fun _ _ _ _ _ => pts_nil) (fun _ _ _ _ _ => (pe_ix (ix_listK (K := K) rfl) (pv 2) (pe_op op_sub (pe_op op_sub (pe_callB (call_lenK (K := K) rfl) (by rfl) T.len (by decide +kernel) (pa_cons (pv 2) pa_nil)) pe_int) (pv 4)) (fun _ _ => rfl)))) (pe_slice sl_list (pv 2) po_none (po_some pe_int))))
        (pss_cons (ps_if (PW.pt (pw_or (pt_cmpR (op_neD hr.units) (pe_call G_l_told (hr.mono (by decide)) (by rfl) D_l_told.g D_l_told.kp D_l_told.b .nil pass0 (pa_cons (pe_call G_joined (hr.mono (by decide)) (by rfl) D_joined.g D_joined.kp D_joined.b .nil pass0 (pa_cons (pv 2) pa_nil)) pa_nil)) (pe_call G_l_sum (hr.mono (by decide)) (by rfl) D_l_sum.g D_l_sum.kp D_l_sum.b .nil pass0 (pa_cons (pv 3) pa_nil)) (nomark _)) (pw_or1 (pt_not (pt_cmpR (op_ownD (op := .Eq) (fun _ _ => rfl) S2.eq S2.fe (GE.raw bE .nil) (hr.mono (by decide)) pass0) (pe_call G_joinedT (hr.mono (by decide)) (by rfl) D_joined.g D_joined.kp D_joined.b .nil pass0 (pa_cons (pe_callTy call_tuple_of (by rfl) T.tuple (by decide +kernel) (pa_cons (pv 8) pa_nil)) pa_nil)) (pe_call G_joined (hr.mono (by decide)) (by rfl) D_joined.g D_joined.kp D_joined.b .nil pass0 (pa_cons (pv 2) pa_nil)) (nomark _)))))) (pss_one (ps_ret pe_bl)) pss_nil)
        (pss_cons (ps_if (PW.pt (pw_and (pt_cmpR (op_neE hr.units) (pv 2) (pe_lst pa_nil) (nomark _)) (pw_and (pt_cmpR op_eq (pe_call G_l_take (hr.mono (by decide)) (by rfl) D_l_take.g D_l_take.kp D_l_take.b .nil pass0 (pa_cons (pv 0) (pa_cons pe_int pa_nil))) pe_int (nomark _)) (pw_and1 (pt_not (pt_cmpR (op_ownD (op := .Eq) (fun _ _ => rfl) S2.eq S2.fe (GE.raw bE .nil) (hr.mono (by decide)) pass0) (pe_call G_joined (hr.mono (by decide)) (by rfl) D_joined.g D_joined.kp D_joined.b .nil pass0 (pa_cons (pe_slice sl_list (pe_op op_rep (pv 8) pe_int) po_none (po_some pe_int)) pa_nil)) (pe_call G_joined (hr.mono (by decide)) (by rfl) D_joined.g D_joined.kp D_joined.b .nil pass0 (pa_cons (pv 2) pa_nil)) (nomark _))))))) (pss_one (ps_ret pe_bl)) pss_nil)
        (pss_one (ps_ret (pe_and (pe_cmpR (op_ownD (op := .Eq) (fun _ _ => rfl) S2.eq S2.fe (GE.raw bE .nil) (hr.mono (by decide)) pass0) (pe_call G_joined (hr.mono (by decide)) (by rfl) D_joined.g D_joined.kp D_joined.b .nil pass0 (pa_cons (pe_lst pa_nil) pa_nil)) (pe_cmeth0 (pe_glob (v := .ref CV) (by rfl) gV rfl) CRV CMV_none (GV_none.raw bV_none .nil) (hr.mono (by decide)) pass0) (nomark _)) (pe_one (pe_cmpR (op_eqD hr.units) (pe_call G_l_told (hr.mono (by decide)) (by rfl) D_l_told.g D_l_told.kp D_l_told.b .nil pass0 (pa_cons (pe_call G_joinedT (hr.mono (by decide)) (by rfl) D_joined.g D_joined.kp D_joined.b .nil pass0 (pa_cons (pe_tup pa_nil) pa_nil)) pa_nil)) (pe_tup (pa_cons pe_int (pa_cons pe_int pa_nil))) (nomark _))))))))))), ?_⟩
    refine ⟨by show 0 ≤ sizeLine; decide, fun S hS => ⟨by show 0 ≤ sizeLine; decide, fun Z hZ => ⟨by show 2 ≤ sizeLine; decide, fun T0 hT0 => ⟨T0, _, rfl, SqT.of upd_same, rfl, _, _, rfl, _, _, rfl, rfl, ?_⟩⟩⟩⟩
    have g1 := same_new (o := .lst []) hS
    have g2 := same_new (o := .lst []) hZ
    have g3 := same_new (o := .tup [V.ref S, V.ref Z]) hT0
    have s1 := g1.trans (g2.trans g3)
    have fS := g3 _ _ (g2 _ _ (upd_same (H := H) (a := S) (o := .lst [])))
    have fZ := g3 _ _ (upd_same (H := upd H S (.lst [])) (a := Z) (o := .lst []))
    have nS : S ≠ b := hB.ne hS
    have nZ : Z ≠ b := (hB.same g1).ne hZ
    have nSZ : S ≠ Z := fun e => by
      have z := upd_same (H := H) (a := S) (o := .lst [])
      rw [e] at z
      rw [e, z] at hZ
      cases hZ
    have hZ0 : H Z = none := g1.free hZ
    have hB1 := hB.same s1
    generalize (upd (upd (upd H S (.lst [])) Z (.lst [])) T0 (.tup [V.ref S, V.ref Z])) = H1 at s1 fS fZ hB1
    clear g1 g2 g3 hT0
    refine ⟨_, rfl, b, 7, rfl, hB1, by decide, by decide, fun r H2 r0 r1 hB2 k2 => ⟨_, rfl, by omega, by omega, ?_⟩⟩
    obtain ⟨m, rfl⟩ := Int.eq_ofNat_of_zero_le r0
    rw [Int.toNat_natCast]
    refine for_range (lo := 0) (n := m) (fun i σ H' => Bag H' b ∧ But b H H' ∧ ∃ (xs zs : List V) (ps : List Pr), H' S = some (.lst xs) ∧ H' Z = some (.lst zs) ∧ Each (IsSay CS) H' xs ps ∧ Each IsPair H' zs ps ∧ ps.length = i ∧
        ∃ u4 u5 u6 u7 u8, σ = [some (.ref b), some (.int (n : Int)), some (.ref S), some (.ref Z), u4, u5, u6, u7, u8])
      ⟨hB2, (But.of s1).trans k2, [], [], [], k2 _ _ nS fS, k2 _ _ nZ fZ, Each.nil, Each.nil, rfl, _, _, _, _, _, rfl⟩ ?_ ?_
    · rintro i σ H3 hi ⟨hB3, k3, xs, zs, ps, hS3, hZ3, eS, eZ, hl, u4, u5, u6, u7, u8, rfl⟩
      refine ⟨_, rfl, _, rfl, b, n, rfl, hB3, hn, fun x p H4 hx hB4 k4 _ => ?_⟩
      obtain ⟨a, rfl, ha, gp⟩ := hx
      obtain ⟨c, e⟩ := p
      refine ⟨a, _, rfl, SqT.of ha, rfl, _, _, rfl, _, _, rfl, rfl, ?_⟩
      have kk := k3.trans k4
      have hS4 := k4 _ _ nS hS3
      have hZ4 := k4 _ _ nZ hZ3
      have eS := eS.mono fun x p r => r.but hB3.lst k4
      have eZ := eZ.mono fun x p r => r.but hB3.lst k4
      clear k3 k4 hB3 hS3 hZ3 ha
      try dsimp only [tNext]
      refine seq_of (fun σ' H' => H' = H4 ∧ ∃ (e' : Nat) (u4 u7 u8 : Option V), σ' = [some (.ref b), some (.int (n : Int)), some (.ref S), some (.ref Z), u4, some (.int (c : Int)), some (.int (e' : Int)), u7, u8] ∧ Gp c e' ∧ 1 ≤ c ||| e') (fun nx hnx => ?_) fun σ' H5 ⟨eH, e', u4, u7, u8, eσ, ge, h1⟩ => ?_
      · refine ⟨_, rfl, _, rfl, _, _, rfl, rfl, rfl, _, rfl, ?_⟩
        by_cases z : c + e = 0
        · have c0 : c = 0 := by omega
          have e0 : e = 0 := by omega
          subst c0 e0
          exact ite_dy rfl (hnx _ _ ⟨rfl, 1, _, _, _, rfl, ⟨rfl, by decide, by decide⟩, by decide⟩)
        · refine ite_dn (fun y => z (by injection y with y; omega)) (hnx _ _ ⟨rfl, e, _, _, _, rfl, gp, ?_⟩)
          have := or_zero (c := c) (b := e)
          omega
      subst eH eσ
      refine ⟨rfl, _, rfl, _, rfl, _, rfl, b, 3, rfl, hB4, by decide, by decide, fun r3 H6 _ _ hB6 k6 => ⟨_, _, rfl, rfl, of_pair_ok ge h1 fun o H7 no s7 hO => ?_⟩⟩
      have kk := (kk.trans k6).trans (But.of s7)
      have hB7 := hB6.same s7
      have hS7 := s7 _ _ (k6 _ _ nS hS4)
      have hZ7 := s7 _ _ (k6 _ _ nZ hZ4)
      have eS := (eS.mono fun x p r => r.but hB4.lst k6).mono fun x p r => r.same s7
      have eZ := (eZ.mono fun x p r => r.but hB4.lst k6).mono fun x p r => r.same s7
      clear hB4 hB6 k6 s7 hS4 hZ4 no
      refine ⟨_, rfl, .ref o, (c, e'), rfl, hO, fun v H8 nv s8 hv => ⟨.ref v, (c, e'), rfl, ⟨v, rfl, hv⟩, fun t ht => ⟨_, rfl, _, rfl, by show 2 ≤ sizeLine; decide, fun t2 ht2 => ne_prs (p := (c, e')) (q := (c, e')) (same_new ht2 _ _ upd_same) upd_same ⟨_, rfl, iteNS rfl ?_⟩⟩⟩⟩
      have s9 := (s8.trans (same_new (o := .tup [.int ((c, e').1 : Nat), .int ((c, e').2 : Nat)]) ht)).trans (same_new (o := .tup [V.int (c : Int), V.int (e' : Int)]) ht2)
      generalize (upd (upd H8 t (.tup [.int ((c, e').1 : Nat), .int ((c, e').2 : Nat)])) t2 (.tup [V.int (c : Int), V.int (e' : Int)])) = H9 at s9
      clear s8 hv nv ht ht2
      have kk := kk.trans (But.of s9)
      have hB9 := hB7.same s9
      have hS9 := s9 _ _ hS7
      have hZ9 := s9 _ _ hZ7
      have eS := eS.mono fun x p r => r.same s9
      have eZ := eZ.mono fun x p r => r.same s9
      have hO := hO.same s9
      have lx : xs.length < sizeLine := by
        have := eS.1
        exact Nat.lt_of_lt_of_le (show xs.length < 7 by omega) (by decide)
      have lz : zs.length < sizeLine := by
        have := eZ.1
        exact Nat.lt_of_lt_of_le (show zs.length < 7 by omega) (by decide)
      clear hB7 hS7 hZ7 s9
      refine ⟨_, rfl, .inl ⟨rfl, _, SqL.of hS9⟩, _, rfl, S, xs, _, rfl, rfl, hS9, lx, ?_⟩
      have kS : But S H9 (L2.upd H9 S (.lst (xs ++ [V.ref o]))) := But.upd S H9 _
      have eS := (eS.mono fun x p r => r.but ⟨xs, hS9⟩ kS).snoc (hO.but ⟨xs, hS9⟩ kS)
      have eZ := eZ.mono fun x p r => r.but ⟨xs, hS9⟩ kS
      have hS10 : (L2.upd H9 S (.lst (xs ++ [V.ref o]))) S = some (.lst (xs ++ [V.ref o])) := upd_same
      have hZ10 := kS _ _ (Ne.symm nSZ) hZ9
      have hB10 := bag_ne (o := .lst (xs ++ [V.ref o])) hB9 nS
      have kk := kk.fresh (o := .lst (xs ++ [V.ref o])) hS
      generalize (L2.upd H9 S (.lst (xs ++ [V.ref o]))) = H10 at kS eS eZ hS10 hZ10 hB10 kk
      refine ⟨_, rfl, .inl ⟨rfl, _, SqL.of hZ10⟩, _, rfl, _, rfl, by show 2 ≤ sizeLine; decide, fun t3 ht3 => ⟨Z, zs, _, rfl, rfl, same_new ht3 _ _ hZ10, lz, ?_⟩⟩
      have s11 := same_new (o := .tup [V.int (c : Int), V.int (e' : Int)]) ht3
      have kZ : But Z (L2.upd H10 t3 (.tup [V.int (c : Int), V.int (e' : Int)])) (L2.upd (L2.upd H10 t3 (.tup [V.int (c : Int), V.int (e' : Int)])) Z (.lst (zs ++ [V.ref t3]))) := But.upd Z _ _
      have hZ11 := s11 _ _ hZ10
      have pr : IsPair (L2.upd H10 t3 (.tup [V.int (c : Int), V.int (e' : Int)])) (.ref t3) (c, e') := ⟨t3, rfl, upd_same, ge⟩
      have eS := eS.mono fun x p r => (r.same s11).but ⟨zs, hZ11⟩ kZ
      have eZ := (eZ.mono fun x p r => (r.same s11).but ⟨zs, hZ11⟩ kZ).snoc (pr.but ⟨zs, hZ11⟩ kZ)
      exact ⟨bag_ne (hB10.same s11) nZ, (kk.trans (But.of s11)).fresh hZ0, xs ++ [.ref o], zs ++ [.ref t3], ps ++ [(c, e')], kZ _ _ nSZ (s11 _ _ hS10), upd_same, eS, eZ, by rw [List.length_append, hl]; rfl, _, _, _, _, _, rfl⟩
    · rintro σ H3 ⟨hB3, k3, xs, zs, ps, hS3, hZ3, eS, eZ, hl, u4, u5, u6, u7, u8, rfl⟩
      have l6 : ps.length ≤ 6 := by omega
      have lxs : xs.length = ps.length := eS.1
      have k0 := k
      -- turned
      refine ⟨_, rfl, S, _, rfl, .inl (SqL.of hS3), _, rfl, by omega, by omega, fun D hD => ?_⟩
      rw [Int.toNat_natCast]
      refine lc_mapR (ys := xs.reverse) (j := 4) hD (by rw [List.length_reverse]) (by omega) (fun i y H4 hy s4 Q' q' => ?_) (fun H4 s4 h4 => ?_)
      · have hi : i < xs.length := by
          have := (List.getElem?_eq_some_iff.mp hy).1
          rw [List.length_reverse] at this
          exact this
        rw [List.getElem?_reverse hi] at hy
        exact ⟨_, rfl, _, rfl, S, _, rfl, .inl (SqL.of (s4 _ _ hS3)), _, _, rfl, rfl, _, rfl, _, _, rfl, rfl, S, _, _, y, rfl, rfl, SqL.of (s4 _ _ hS3), at_of (j := xs.length - 1 - i) (by show (xs.length : Int) - 1 - (0 + (i : Int)) = _; omega) hy, q' _ (Same.refl _)⟩
      refine ⟨_, rfl, _, rfl, S, _, rfl, SqL.of (s4 _ _ hS3), fun p hp => ⟨D, p, _, _, rfl, rfl, same_new hp _ _ h4, upd_same, ?_, fun t ht => ?_⟩⟩
      · rw [List.length_reverse, show (1 : Int) = ((1 : Nat) : Int) from rfl, cut_take, List.length_take]
        exact Nat.le_trans (show _ ≤ 32 by omega) (by decide)
      have ec : cutV xs none (some 1) = xs.take 1 := cut_take xs 1
      have s5 := (s4.trans (same_new (o := .lst (cutV xs none (some 1))) hp)).trans (same_new (o := .lst (xs.reverse ++ cutV xs none (some 1))) ht)
      have h5 : (upd (upd H4 p (.lst (cutV xs none (some 1)))) t (.lst (xs.reverse ++ cutV xs none (some 1)))) t = some (.lst (xs.reverse ++ xs.take 1)) := by rw [upd_same, ec]
      generalize (upd (upd H4 p (.lst (cutV xs none (some 1)))) t (.lst (xs.reverse ++ cutV xs none (some 1)))) = H5 at s5 h5
      clear s4 h4 hp ht hD
      have hS5 := s5 _ _ hS3
      have hZ5 := s5 _ _ hZ3
      have eS5 : ∀ {H'}, Same H5 H' → Each (IsSay CS) H' xs ps := fun s => eS.mono fun x p r => r.same (s5.trans s)
      have eT5 : ∀ {H'}, Same H5 H' → Each (IsSay CS) H' (xs.reverse ++ xs.take 1) (ps.reverse ++ ps.take 1) := fun s => (eS5 s).rev.app ((eS5 s).take 1)
      have ej : jp (ps.reverse ++ ps.take 1) = jp ps := jp_mem fun p => by
        rw [List.mem_append, List.mem_reverse]
        exact ⟨fun h => h.elim (fun h => h) List.mem_of_mem_take, .inl⟩
      -- joined
      refine ⟨_, rfl, S, xs, ps, rfl, SqL.of hS5, eS5 (Same.refl _), fun v H6 nv s6 hv => ⟨.ref v, jp ps, rfl, ⟨v, rfl, hv⟩, fun t1 ht1 => ?_⟩⟩
      have s7 := s6.trans (same_new (o := .tup [.int (jp ps).1, .int (jp ps).2]) ht1)
      refine ⟨_, rfl, Z, zs, ps, rfl, SqL.of (s7 _ _ hZ5), eZ.mono fun x p r => r.same (s5.trans s7), by (have := eZ.1); omega, fun t2 H7 nt s8 h8 => ne_prs (p := jp ps) (q := jp ps) (s8 _ _ upd_same) h8 ⟨_, rfl, iteNS rfl ?_⟩⟩
      have s8 := s7.trans s8
      clear s6 s7 hv nv ht1 h8 nt
      refine ⟨_, rfl, t, _, rfl, .inl ⟨SqL.of (s8 _ _ h5), fun l hl2 => ?_⟩⟩
      have s9 := s8.trans (same_new (o := .tup (xs.reverse ++ xs.take 1)) hl2)
      refine ⟨l, _, ps.reverse ++ ps.take 1, rfl, SqT.of upd_same, eT5 s9, fun v1 H8 n1 s10 hv1 => ⟨_, rfl, S, xs, ps, rfl, SqL.of (s10 _ _ (s9 _ _ hS5)), eS5 (s9.trans s10), fun v2 H9 n2 s11 hv2 => own_ver (p := jp (ps.reverse ++ ps.take 1)) (q := jp ps) SV S2 (Ver.same hv1 s11) hv2 ⟨_, rfl, iteNS ej ?_⟩⟩⟩
      have s11 := (s9.trans s10).trans s11
      clear s8 s9 s10 hv1 hv2 n1 n2 hl2
      try dsimp only [tNext]
      have k := fun H' (hb : Bag H' b) (kb : But b H H') => k0 H' hb kb
      have hB11 := hB3.same (s5.trans s11)
      have k11 := k3.trans (But.of (s5.trans s11))
      have hS11 := s11 _ _ hS5
      have h11 := s11 _ _ h5
      -- the long one
      refine seq_of (fun σ' H' => Bag H' b ∧ But b H H') (fun nx hnx => ?_) fun σ' H12 ⟨hB12, k12⟩ => ?_
      · refine ⟨_, rfl, by show 0 ≤ sizeLine; decide, fun E0 hE => ⟨S, E0, xs, rfl, rfl, same_new hE _ _ hS11, upd_same, _, rfl, ite2 (fun hne => ?_) (fun _ => hnx _ _ ⟨hB11.same (same_new hE), k11.trans (But.of (same_new hE))⟩)⟩⟩
        have s12 := same_new (o := .lst []) hE
        refine ⟨_, rfl, b, 8, rfl, hB11.same s12, by decide, by decide, fun r8 H13 _ _ hB13 k13 => ⟨rfl, _, rfl, ite2 (fun _ => ?_) (fun _ => hnx _ _ ⟨hB13, (k11.trans (But.of s12)).trans k13⟩)⟩⟩
        have nt : t ≠ b := fun e => by
          obtain ⟨cc, mm, kk, eb, _⟩ := hB11
          rw [e, eb] at h11
          have := congrArg (fun o => match o with | some (HO.lst l) => l | _ => []) h11
          have z : [V.int cc, V.int mm, V.int kk] = xs.reverse ++ xs.take 1 := this
          have zi : (xs.reverse ++ xs.take 1)[0]? = some (V.int cc) := by rw [← z]; rfl
          have hpos : 0 < ps.length := by
            rw [← lxs]
            cases xs with
            | nil => cases hne
            | cons x r => exact Nat.succ_pos _
          have e5 := eT5 (Same.refl _)
          have hp0 : ∃ p, (ps.reverse ++ ps.take 1)[0]? = some p := ⟨_, List.getElem?_eq_getElem (by rw [List.length_append, List.length_reverse]; omega)⟩
          obtain ⟨p0, hp0⟩ := hp0
          obtain ⟨aa, _, _, _, ex, _⟩ := e5.2 0 _ p0 zi hp0
          cases ex
        have ht13 := k13 _ _ nt (s12 _ _ h11)
        have hS13 := k13 _ _ nS (s12 _ _ hS11)
        have eS13 : ∀ {H'}, Same H13 H' → Each (IsSay CS) H' xs ps := fun s => ((eS5 (s11.trans s12)).mono fun x p r => r.but (hB11.same s12).lst k13).mono fun x p r => r.same s
        have eT13 : ∀ {H'}, Same H13 H' → Each (IsSay CS) H' (xs.reverse ++ xs.take 1) (ps.reverse ++ ps.take 1) := fun s => (eS13 s).rev.app ((eS13 s).take 1)
        have hpos : 0 < ps.length := by
          rw [← lxs]
          cases xs with
          | nil => cases hne
          | cons x r => exact Nat.succ_pos _
        have lt : (ps.reverse ++ ps.take 1).length ≤ 8 := by
          rw [List.length_append, List.length_reverse, List.length_take]
          omega
        have lp : 0 < (ps.reverse ++ ps.take 1).length := by
          rw [List.length_append, List.length_reverse]
          omega
        refine ⟨_, rfl, t, 500, _, rfl, rfl, ht13, by decide, by decide, ?_, fun l hl3 => ⟨_, rfl, l, _, rfl, SqL.of upd_same, fun p hp => ?_⟩⟩
        · rw [(eT13 (Same.refl _)).1]
          exact Nat.le_trans (Nat.mul_le_mul lt (Nat.le_refl 500)) (by decide)
        have ec2 : cutV (List.replicate (500 : Int).toNat (xs.reverse ++ xs.take 1)).flatten none (some 1000) = (List.replicate 500 (xs.reverse ++ xs.take 1)).flatten.take 1000 := cut_take _ 1000
        have s14 := (same_new (o := .lst (List.replicate (500 : Int).toNat (xs.reverse ++ xs.take 1)).flatten) hl3).trans (same_new (o := .lst (cutV (List.replicate (500 : Int).toNat (xs.reverse ++ xs.take 1)).flatten none (some 1000))) hp)
        refine ⟨p, _, ((List.replicate 500 (ps.reverse ++ ps.take 1)).flatten.take 1000), rfl, SqL.of upd_same, ?_, fun v1 H15 n1 s15 hv1 => ⟨_, rfl, S, xs, ps, rfl, SqL.of (s15 _ _ (s14 _ _ hS13)), eS13 (s14.trans s15), fun v2 H16 n2 s16 hv2 => own_ver (p := jp ((List.replicate 500 (ps.reverse ++ ps.take 1)).flatten.take 1000)) (q := jp ps) SV S2 (Ver.same hv1 s16) hv2 ⟨_, rfl, iteNS ?_ (hnx _ _ ⟨hB13.same ((s14.trans s15).trans s16), ((k11.trans (But.of s12)).trans k13).trans (But.of ((s14.trans s15).trans s16))⟩)⟩⟩⟩
        · have e14 := ((eT13 s14).rep 500).take 1000
          rw [← ec2] at e14
          exact e14
        · rw [jp_mem (many_mem lp lt), ej]
      -- of none
      refine ⟨by show 0 ≤ sizeLine; decide, fun e0 he0 => ⟨e0, [], [], rfl, SqL.of upd_same, Each.nil, fun v1 H13 n1 s13 hv1 => ⟨rfl, rfl, fun v2 H14 n2 s14 hv2 => own_ver (p := jp []) (q := (0, 0)) SV S2 (Ver.same hv1 s14) hv2 ⟨_, rfl, ite_dy rfl ?_⟩⟩⟩⟩
      have s15 := ((same_new (o := .lst []) he0).trans s13).trans s14
      refine ⟨by show 0 ≤ sizeLine; decide, fun e1 he1 => ⟨e1, [], [], rfl, SqT.of upd_same, Each.nil, fun v3 H15 n3 s16 hv3 => ⟨.ref v3, jp [], rfl, ⟨v3, rfl, hv3⟩, fun t1 ht1 => ⟨by show 2 ≤ sizeLine; decide, fun t2 ht2 => eq_prs (p := jp []) (q := (0, 0)) (same_new ht2 _ _ upd_same) upd_same ?_⟩⟩⟩⟩
      have s17 := (((s15.trans (same_new (o := .tup []) he1)).trans s16).trans (same_new (o := .tup [.int (jp []).1, .int (jp []).2]) ht1)).trans (same_new (o := .tup [V.int 0, V.int 0]) ht2)
      have k' := k _ (hB12.same s17) (k12.trans (But.of s17))
      have eT : true = decide (jp [] = ((0, 0) : Pr)) := (decide_eq_true rfl).symm
      exact eT ▸ k'
end
end My
set_option Elab.async false
set_option maxRecDepth 100000
set_option maxHeartbeats 4000000
namespace My
open PySem L2 ClX
def sp_law (K : PySem.W.Frag) : Sp := fun vs H Q _ => ∃ (a : Addr) (ns : List Int), vs = [.ref a] ∧ SqL K H a (ns.map V.int) ∧ ns.length ≤ 63 ∧ ∀ H', Q (.bl true) H'
structure BtL (mg : Str → Option Value) : Prop where
  range : mg "range" = none
  len : mg "len" = none
  max : mg "max" = none
  min : mg "min" = none
theorem IsPair.ne {H : Hp} {x : V} {p : Pr} {b : Addr} (h : IsPair H x p) (hB : Bag H b) : ∀ a, x = .ref a → a ≠ b := fun a e z => by
  obtain ⟨a', e', ha, _⟩ := h
  obtain ⟨c, m, n, eb, _⟩ := hB
  rw [e] at e'
  injection e' with e'
  rw [← e', z, eb] at ha
  cases ha
theorem three {H : Hp} {x0 x1 x2 : V} {q0 q1 q2 : Pr} (h0 : IsPair H x0 q0) (h1 : IsPair H x1 q1) (h2 : IsPair H x2 q2) : Each IsPair H [x0, x1, x2] [q0, q1, q2] := ((Each.nil.snoc h0).snoc h1).snoc h2
section
variable {P : Program} {w : World} {K : PySem.W.Frag} {mg : Str → Option Value} {base : Heap}
abbrev s_law : Stmt := top 37
abbrev N_law : List Str := ["_law_script", "_law_place", "_law_bag_here", "_law_turn", "_law_days", "_law_pairs", "_law_blunt", "_law_wide"]
theorem sc_law : FnScope N_law ["_law_script"] (defScope s_law) := ⟨rfl, rfl, rfl, by decide +kernel, rfl, by decide +kernel, by decide +kernel⟩
theorem ok_law {f fB fT fO fP fU fS fR fJ fX : Addr} {fd fdB fdT fdO fdP fdU fdS fdR fdJ fdX : FuncData} (F : Fun K "law" "law" s_law f fd) (T : BtL mg)
    (D_l_bag : Df K mg "_law_bag" ["_law_script", "_law_at"] fB fdB) (G_l_bag : FnOk P w K mg base CX0 2 fB fdB ["_law_script", "_law_at"] (sp_l_bag K))
    (D_l_take : Df K mg "_law_take" ["_law_bag_here", "_law_many"] fT fdT) (G_l_take : FnOk P w K mg base CX0 2 fT fdT ["_law_bag_here", "_law_many"] sp_l_take) (D_l_of : Df K mg "_law_of" ["_law_bag_here", "_law_some"] fO fdO) (G_l_of : FnOk P w K mg base CX0 3 fO fdO ["_law_bag_here", "_law_some"] sp_l_of)
    (D_l_pair : Df K mg "_law_pair" ["_law_bag_here", "_law_days"] fP fdP) (G_l_pair : FnOk P w K mg base CX0 4 fP fdP ["_law_bag_here", "_law_days"] sp_l_pair) (D_l_blunter : Df K mg "_law_blunter" ["_law_bag_here", "_law_pair_here"] fU fdU) (G_l_blunter : FnOk P w K mg base CX0 3 fU fdU ["_law_bag_here", "_law_pair_here"] sp_l_blunter)
    (D_l_sums : Df K mg "_law_sums" ["_law_pairs"] fS fdS) (G_l_sums : FnOk P w K mg base CX0 7 fS fdS ["_law_pairs"] (sp_l_sums K)) (D_l_order : Df K mg "_law_order" ["_law_pairs", "_law_blunt", "_law_wide"] fR fdR) (G_l_order : FnOk P w K mg base CX0 7 fR fdR ["_law_pairs", "_law_blunt", "_law_wide"] (sp_l_order K))
    (D_l_joined : Df K mg "_law_joined" ["_law_bag_here", "_law_days"] fJ fdJ) (G_l_joined : FnOk P w K mg base CX0 8 fJ fdJ ["_law_bag_here", "_law_days"] sp_l_joined) (D_l_refusals : Df K mg "_law_refusals" ["_law_bag_here", "_law_pair_here"] fX fdX) (G_l_refusals : FnG P w K mg base CX0 7 fX fdX ["_law_bag_here", "_law_pair_here"] sp_l_refusals) :
    FnG P w K mg base CX0 9 f fd ["_law_script"] (sp_law K) := by
  refine My.Fun.okG F sc_law (fun vs H Q E h => ?_) (fun cdv A outer s H vs Q E hG hr h => ?_)
  · obtain ⟨a, ns, rfl, _⟩ := h
    rfl
  · obtain ⟨a, ns, rfl, hS, hl, k⟩ := h
    refine ⟨_, (pss_cons (ps_for PassesOwn.never rfl (pi_range1 (by rfl) T.range (pa_cons (pe_callB (call_max2 rfl) (by rfl) T.max (by decide +kernel) (pa_cons pe_int (pa_cons (pe_callB (call_min2 rfl) (by rfl) T.min (by decide +kernel) (pa_cons pe_int (pa_cons (pe_callB call_len_seq (by rfl) T.len (by decide +kernel) (pa_cons (pv 0) pa_nil)) pa_nil))) pa_nil))) pa_nil)) (pg_name (i := 1) sc_law.nd rfl (Or.inl rfl)) (pss_cons (ps_set (i := 2) sc_law.nd rfl (Or.inl rfl) (pe_call G_l_bag (hr.mono (by decide)) (by rfl) D_l_bag.g D_l_bag.kp D_l_bag.b .nil pass0 (pa_cons (pv 0) (pa_cons (pv 1) pa_nil))))
        (pss_one (ps_for PassesOwn.never rfl (pi_range1 (by rfl) T.range (pa_cons pe_int pa_nil)) (pg_name (i := 3) sc_law.nd rfl (Or.inl rfl)) (pss_cons (ps_set (i := 4) sc_law.nd rfl (Or.inl rfl) (pe_call G_l_of (hr.mono (by decide)) (by rfl) D_l_of.g D_l_of.kp D_l_of.b .nil pass0 (pa_cons (pv 2) (pa_cons (pe_lst (pa_cons pe_int (pa_cons pe_int (pa_cons pe_int (pa_cons pe_int pa_nil))))) pa_nil))))
        (pss_cons (ps_set (i := 5) sc_law.nd rfl (Or.inl rfl) (pe_lst (pa_cons (pe_call G_l_pair (hr.mono (by decide)) (by rfl) D_l_pair.g D_l_pair.kp D_l_pair.b .nil pass0 (pa_cons (pv 2) (pa_cons (pv 4) pa_nil))) (pa_cons (pe_call G_l_pair (hr.mono (by decide)) (by rfl) D_l_pair.g D_l_pair.kp D_l_pair.b .nil pass0 (pa_cons (pv 2) (pa_cons (pv 4) pa_nil))) (pa_cons (pe_call G_l_pair (hr.mono (by decide)) (by rfl) D_l_pair.g D_l_pair.kp D_l_pair.b .nil pass0 (pa_cons (pv 2) (pa_cons (pv 4) pa_nil))) pa_nil)))))
        (pss_cons (ps_if (pt_cmpR op_eq (pe_call G_l_take (hr.mono (by decide)) (by rfl) D_l_take.g D_l_take.kp D_l_take.b .nil pass0 (pa_cons (pv 2) (pa_cons pe_int pa_nil))) pe_int (nomark _)) (pss_one (ps_asg (pe_ix ix_list (pv 5) pe_int (fun _ _ => rfl)) (pg_sub (pv 5) pe_int set_list))) pss_nil)
        (pss_cons (ps_set (i := 6) sc_law.nd rfl (Or.inl rfl) (pe_call G_l_blunter (hr.mono (by decide)) (by rfl) D_l_blunter.g D_l_blunter.kp D_l_blunter.b .nil pass0 (pa_cons (pv 2) (pa_cons (pe_ix ix_list (pv 5) pe_int (fun _ _ => rfl)) pa_nil))))
        (pss_cons (ps_set (i := 7) sc_law.nd rfl (Or.inl rfl) (pe_call G_l_blunter (hr.mono (by decide)) (by rfl) D_l_blunter.g D_l_blunter.kp D_l_blunter.b .nil pass0 (pa_cons (pv 2) (pa_cons (pv 6) pa_nil))))
        (pss_cons (ps_if (PW.pt (pw_or (pt_not (pt_val (pe_call G_l_sums (hr.mono (by decide)) (by rfl) D_l_sums.g D_l_sums.kp D_l_sums.b .nil pass0 (pa_cons (pv 5) pa_nil)))) (pw_or (pt_not (pt_val (pe_call G_l_order (hr.mono (by decide)) (by rfl) D_l_order.g D_l_order.kp D_l_order.b .nil pass0 (pa_cons (pv 5) (pa_cons (pv 6) (pa_cons (pv 7) pa_nil)))))) (pw_or1 (pt_not (pt_val (pe_call G_l_joined (hr.mono (by decide)) (by rfl) D_l_joined.g D_l_joined.kp D_l_joined.b .nil pass0 (pa_cons (pv 2) (pa_cons (pv 4) pa_nil))))))))) (pss_one (ps_ret pe_bl)) pss_nil)
        (pss_one (ps_if (pt_not (pt_val (pe_callG G_l_refusals hG (hr.mono (by decide)) (by rfl) D_l_refusals.g D_l_refusals.kp D_l_refusals.b (pa_cons (pv 2) (pa_cons (pe_ix ix_list (pv 5) pe_int (fun _ _ => rfl)) pa_nil))))) (pss_one (ps_ret pe_bl)) pss_nil))))))))))))
        (pss_one (ps_ret pe_bl))), ?_⟩
    refine ⟨_, rfl, _, _, rfl, .inl hS, _, _, rfl, ?_⟩
    refine ⟨_, _, rfl, ?_⟩
    rw [List.length_map]
    refine ⟨_, rfl, ?_, ?_, ?_⟩
    · split <;> split <;> omega
    · split <;> split <;> omega
    generalize hn : (if (if ((ns.length : Nat) : Int) < 4 then ((ns.length : Nat) : Int) else 4) > 1 then (if ((ns.length : Nat) : Int) < 4 then ((ns.length : Nat) : Int) else 4) else 1 : Int).toNat = n
    have hn4 : n ≤ 4 := by
      rw [← hn]
      split <;> split <;> omega
    refine for_range (lo := 0) (n := n) (fun i σ H' => Same H H' ∧ ∃ u1 u2 u3 u4 u5 u6 u7, σ = [some (.ref a), u1, u2, u3, u4, u5, u6, u7]) ⟨Same.refl H, _, _, _, _, _, _, _, rfl⟩ ?_ ?_
    · rintro i σ H' hi ⟨s1, u1, u2, u3, u4, u5, u6, u7, rfl⟩
      refine ⟨_, rfl, _, rfl, a, ns, _, rfl, s1.seq hS, hl, (by omega), (by omega), fun b H1 hb s2 hB => ?_⟩
      have nb : H b = none := s1.free hb
      have t1 : Same H H1 := s1.trans s2
      refine ⟨2, rfl, by decide, by decide, for_range (lo := 0) (n := 2) (fun i σ H' => Same H H' ∧ Bag H' b ∧ ∃ u1 u3 u4 u5 u6 u7, σ = [some (.ref a), u1, some (.ref b), u3, u4, u5, u6, u7]) ⟨t1, hB, _, _, _, _, _, _, rfl⟩ ?_ ?_⟩
      · rintro i σ H2 hi ⟨t2, hB2, u1, u3, u4, u5, u6, u7, rfl⟩
        refine ⟨_, rfl, by show 4 ≤ sizeLine; decide, fun L hL => ?_⟩
        have g1 := same_new (o := .lst [V.int 4, V.int 4, V.int 16, V.int 2]) hL
        refine ⟨b, L, _, rfl, hB2.same g1, hB2.ne hL, upd_same, by show 0 < 4; decide, by show 4 ≤ 100000; decide, fun j v H3 hj hB3 k3 => ?_⟩
        obtain ⟨d, rfl, hd⟩ : ∃ d : Nat, v = .int (d : Int) ∧ d ≤ 16 := by
          have hm := List.mem_of_getElem? hj
          simp only [List.mem_cons, List.not_mem_nil, or_false] at hm
          rcases hm with rfl | rfl | rfl | rfl
          · exact ⟨4, rfl, by decide⟩
          · exact ⟨4, rfl, by decide⟩
          · exact ⟨16, rfl, by decide⟩
          · exact ⟨2, rfl, by decide⟩
        have kk := (But.of g1).trans k3
        clear hj g1 hL k3
        refine ⟨_, rfl, _, rfl, b, d, rfl, hB3, hd, fun x0 q0 H4 h0 hB4 k4 _ => ?_⟩
        refine ⟨_, rfl, _, rfl, b, d, rfl, hB4, hd, fun x1 q1 H5 h1 hB5 k5 _ => ?_⟩
        refine ⟨_, rfl, _, rfl, b, d, rfl, hB5, hd, fun x2 q2 H6 h2 hB6 k6 _ => ⟨by show 3 ≤ sizeLine; decide, fun Lp hLp => ?_⟩⟩
        have h0 := (h0.but hB4.lst k5).but hB5.lst k6
        have h1 := h1.but hB5.lst k6
        have g7 := same_new (o := .lst [x0, x1, x2]) hLp
        have nLp := hB6.ne hLp
        have kk6 := ((kk.trans k4).trans k5).trans k6
        have fLp := But.free kk6 hLp nLp
        have kk := kk6.trans (But.of g7)
        have hB7 := hB6.same g7
        have h0 := h0.same g7
        have h1 := h1.same g7
        have h2 := h2.same g7
        have hL7 : (upd H6 Lp (.lst [x0, x1, x2])) Lp = some (.lst [x0, x1, x2]) := upd_same
        generalize (upd H6 Lp (.lst [x0, x1, x2])) = H7 at kk hB7 h0 h1 h2 hL7
        clear k4 k5 k6 g7 hB4 hB5 hB6 hLp hB3
        try dsimp only [tNext, gName]
        refine seq_of (fun σ' H' => ∃ (x1' : V) (q1' : Pr) (u1 u3 u6 u7 : Option V), σ' = [some (.ref a), u1, some (.ref b), u3, some (.int (d : Int)), some (.ref Lp), u6, u7] ∧ H' Lp = some (.lst [x0, x1', x2]) ∧ IsPair H' x0 q0 ∧ IsPair H' x1' q1' ∧ IsPair H' x2 q2 ∧ Bag H' b ∧ But b H2 H') (fun nx hnx => ?_) fun σ' H8 ⟨x1', q1', u1', u3', u6', u7', eσ, hL8, h0, h1, h2, hB8, k8⟩ => ?_
        · refine ⟨_, rfl, b, 6, rfl, hB7, by decide, by decide, fun r H8 _ _ hB8 k8 => ⟨rfl, _, rfl, ite2 (fun _ => ?_) (fun _ => ?_)⟩⟩
          · have hL8 := k8 _ _ nLp hL7
            have kL : But Lp H8 (L2.upd H8 Lp (.lst [x0, x0, x2])) := But.upd Lp H8 _
            have p0 := (h0.but hB7.lst k8).but ⟨_, hL8⟩ kL
            have p2 := (h2.but hB7.lst k8).but ⟨_, hL8⟩ kL
            refine ⟨_, rfl, Lp, _, _, _, rfl, rfl, SqL.of hL8, rfl, _, rfl, Lp, _, _, _, rfl, rfl, hL8, rfl, hnx _ _ ⟨x0, q0, _, _, _, _, rfl, upd_same, p0, p0, p2, bag_ne hB8 nLp, (kk.trans k8).fresh fLp⟩⟩
          · exact hnx _ _ ⟨x1, q1, _, _, _, _, rfl, k8 _ _ nLp hL7, h0.but hB7.lst k8, h1.but hB7.lst k8, h2.but hB7.lst k8, hB8, kk.trans k8⟩
        subst eσ
        clear hB7 hL7 kk6
        refine ⟨_, rfl, _, rfl, Lp, _, _, _, rfl, rfl, SqL.of hL8, rfl, b, x0, q0, rfl, hB8, h0, h0.ne hB8, fun yb qb H9 hyb sb hB9 k9 _ => ?_⟩
        have hL9 := k9 _ _ nLp hL8
        have h0 := h0.but hB8.lst k9
        have h1 := h1.but hB8.lst k9
        have h2 := h2.but hB8.lst k9
        refine ⟨_, rfl, _, rfl, b, yb, qb, rfl, hB9, hyb, hyb.ne hB9, fun yw qw H10 hyw sw hB10 k10 _ => ?_⟩
        have hL10 := k10 _ _ nLp hL9
        have h0 := h0.but hB9.lst k10
        have h1 := h1.but hB9.lst k10
        have h2 := h2.but hB9.lst k10
        have hyb := hyb.but hB9.lst k10
        have kk := (k8.trans k9).trans k10
        clear k8 k9 k10 hL8 hL9 hB8 hB9
        refine ⟨_, rfl, Lp, _, q0, q1', q2, rfl, SqL.of hL10, three h0 h1 h2, fun H11 s11 => ⟨_, rfl, iteF ?_⟩⟩
        refine ⟨_, rfl, _, rfl, _, rfl, Lp, _, q0, q1', q2, qb, qw, yb, yw, rfl, s11 _ _ hL10, three (h0.same s11) (h1.same s11) (h2.same s11), hyb.same s11, hyw.same s11, sb, sw, fun H12 s12 => ⟨_, rfl, iteF ?_⟩⟩
        have s12 := s11.trans s12
        have hB12 := hB10.same s12
        refine ⟨_, rfl, _, rfl, b, d, rfl, hB12, hd, fun H13 hB13 k13 => ⟨_, rfl, iteF ?_⟩⟩
        have hL13 := k13 _ _ nLp (s12 _ _ hL10)
        have h2 := (h2.same s12).but hB12.lst k13
        refine ⟨_, rfl, _, rfl, Lp, _, _, _, rfl, rfl, SqL.of hL13, rfl, b, x2, q2, rfl, hB13, h2, h2.ne hB13, fun H14 hB14 k14 => ⟨_, rfl, iteF ?_⟩⟩
        exact ⟨But.toSame nb t2 (((kk.trans (But.of s12)).trans k13).trans k14), hB14, _, _, _, _, _, _, rfl⟩
      · rintro σ H2 ⟨t2, hB2, u1, u3, u4, u5, u6, u7, rfl⟩
        exact ⟨t2, _, _, _, _, _, _, _, rfl⟩
    · rintro σ H' ⟨s1, u1, u2, u3, u4, u5, u6, u7, rfl⟩
      exact k H'
end
end My
set_option Elab.async false
set_option maxRecDepth 100000
set_option maxHeartbeats 4000000
namespace My
open PySem L2 ClX
abbrev psI : List Str := ["self", "where", "then", "usual"]
abbrev psO : List Str := ["cls", "confirm", "broken", "usual"]
theorem fund_mk {K : PySem.W.Frag} {x qual : Str} {st : Stmt} {f T : Addr} {oc : Value} {od an : Option Addr} {osl tsl : Array (Option Value)} {kV doc pm cdv ct tc : Value} {td : Option Addr} {tn : Nat}
    (l : K.lookup f = some ⟨oc, od, .func (PySem.W.fnOf x qual (defArgs st) (defBody st) (defScope st) (.ref T) kV doc pm an cdv ct), osl⟩) (c : PySem.W.codeIn K cdv qual = true) (k : PySem.W.keepIn K (.ref f) = true) (d : K.lookup T = some ⟨tc, td, .seq #[.bool true] tn, tsl⟩) :
    FunD K x qual (defArgs st) (defBody st) (defScope st) [.bl true] [] f (PySem.W.fnOf x qual (defArgs st) (defBody st) (defScope st) (.ref T) kV doc pm an cdv ct) :=
  ⟨⟨oc, od, .ref T, kV, doc, pm, an, cdv, ct, osl, rfl, l, c, .inr ⟨(fun z => nomatch z), T, _, [.bool true], tn, rfl, d, rfl, .cons rfl .nil⟩, .inl rfl⟩, k⟩
theorem binds_full {K : PySem.W.Frag} {fd : FuncData} {ps : List Str} (h : ∃ ds, Vals ([V.bl true].drop 1) ds ∧ Binds K fd ps ds) : Binds K fd ps [] := by
  obtain ⟨ds, v, b⟩ := h
  cases v
  exact b
section
variable {K : PySem.W.Frag} {f : Addr} {fd : FuncData}
theorem init_full (F : FunD K "__init__" "Saying.__init__" (defArgs s_Saying_init) (defBody s_Saying_init) (defScope s_Saying_init) [.bl true] [] f fd) : Binds K fd psI [] :=
  binds_full (F.binds1 (ps := psI) 4 1 (fun z => nomatch z) rfl fun T kV doc pm an cdv ct us its h1 h2 => match us, its, h1, h2 with | [_, _, _, _], [_], _, _ => ⟨_, rfl, rfl⟩)
theorem init_def (F : FunD K "__init__" "Saying.__init__" (defArgs s_Saying_init) (defBody s_Saying_init) (defScope s_Saying_init) [.bl true] [] f fd) : ∃ ds, Vals [V.bl true] ds ∧ Binds K fd psI ds :=
  F.binds1 (ps := psI) 3 0 (fun z => nomatch z) rfl fun T kV doc pm an cdv ct us its h1 h2 => match us, its, h1, h2 with | [_, _, _], [_], _, _ => ⟨_, rfl, rfl⟩
theorem init_kw (F : FunD K "__init__" "Saying.__init__" (defArgs s_Saying_init) (defBody s_Saying_init) (defScope s_Saying_init) [.bl true] [] f fd) : ∃ gg, KBn K fd psI 2 ["then", "usual"] gg (fun vs zs => vs ++ zs) := by
  obtain ⟨its, k⟩ := F.kbindsD (ps := psI) 2 ["then", "usual"] (fun us _ ws => us ++ ws) (fun z => nomatch z) (fun r1 _ r3 => r1.append r3) fun T kV doc pm an cdv ct us its ws h1 h2 h3 => match us, its, ws, h1, h2, h3 with | [_, _], [_], [_, _], _, _, _ => ⟨_, rfl, rfl⟩
  exact ⟨_, k⟩
theorem of_full (F : FunD K "of_days" "Saying.of_days" (defArgs s_Saying_of_days) (defBody s_Saying_of_days) (defScope s_Saying_of_days) [.bl true] [] f fd) : Binds K fd psO [] :=
  binds_full (F.binds1 (ps := psO) 4 1 (fun z => nomatch z) rfl fun T kV doc pm an cdv ct us its h1 h2 => match us, its, h1, h2 with | [_, _, _, _], [_], _, _ => ⟨_, rfl, rfl⟩)
theorem of_def (F : FunD K "of_days" "Saying.of_days" (defArgs s_Saying_of_days) (defBody s_Saying_of_days) (defScope s_Saying_of_days) [.bl true] [] f fd) : ∃ ds, Vals [V.bl true] ds ∧ Binds K fd psO ds :=
  F.binds1 (ps := psO) 3 0 (fun z => nomatch z) rfl fun T kV doc pm an cdv ct us its h1 h2 => match us, its, h1, h2 with | [_, _, _], [_], _, _ => ⟨_, rfl, rfl⟩
theorem of_kw (F : FunD K "of_days" "Saying.of_days" (defArgs s_Saying_of_days) (defBody s_Saying_of_days) (defScope s_Saying_of_days) [.bl true] [] f fd) : ∃ gg, KBn K fd psO 3 ["usual"] gg (fun vs zs => vs ++ zs) := by
  obtain ⟨its, k⟩ := F.kbindsD (ps := psO) 3 ["usual"] (fun us _ ws => us ++ ws) (fun z => nomatch z) (fun r1 _ r3 => r1.append r3) fun T kV doc pm an cdv ct us its ws h1 h2 h3 => match us, its, ws, h1, h2, h3 with | [_, _, _], [_], [_], _, _, _ => ⟨_, rfl, rfl⟩
  exact ⟨_, k⟩
end
theorem kit_not {K : PySem.W.Frag} {C : Addr} {T : String} (h1 : PySem.W.isClsIn K C = true) (h2 : PySem.W.typeIn K (.ref C) = some (.type "type")) (h3 : PySem.W.subIn K (.type T) (.ref C) = some false) : PySem.W.kitOne K (.type T) (.ref C) = some false := by
  unfold PySem.W.kitOne
  rw [if_neg (by simp)]
  show (if ((PySem.W.clsIn K C).isSome && PySem.W.typeIn K (.ref C) == some (.type "type")) = true then PySem.W.subIn K (.type T) (.ref C) else none) = some false
  have h4 : (PySem.W.clsIn K C).isSome = true := h1
  rw [if_pos (by rw [h4, h2]; rfl)]
  exact h3
end My
set_option Elab.async false
set_option maxRecDepth 100000
set_option maxHeartbeats 4000000
namespace My
open PySem L2 ClX
theorem exm_same {K : PySem.W.Frag} {S : Addr} (h1 : PySem.W.subIn K (.ref S) (.type "BaseException") = some true) (h2 : PySem.W.isClsIn K S = true) (h3 : PySem.W.typeIn K (.ref S) = some (.type "type")) (h4 : PySem.W.subIn K (.ref S) (.ref S) = some true) :
    PySem.W.exmOne K (.ref S) (.ref S) = some true := by
  have e1 : (PySem.W.subIn K (.ref S) (.type "BaseException") == some true) = true := by rw [h1]; rfl
  have e2 : ((PySem.W.clsIn K S).isSome && PySem.W.typeIn K (.ref S) == some (.type "type")) = true := by
    have h5 : (PySem.W.clsIn K S).isSome = true := h2
    rw [h5, h3]; rfl
  show (if _ = true then (if _ = true then _ else none) else none) = some true
  rw [if_pos e1, if_pos e2]
  exact h4
theorem all_mk {P : Program} {w : World} {K : PySem.W.Frag} {h : Heap} {mg : Str → Option Value} {fa : Addr} (X : K.In h) (G : h.Ns mainGlobals mg) (hfa : mg "law" = some (.ref fa))
    {fX : Addr} {odX anX : Option Addr} {slX : Array (Option Value)} {ocX kVX dcX pmX cdX ctX : Value}
    (aX : PySem.W.nsIn K mainGlobals "is_number" = some (some (.ref fX)))
    (lX : K.lookup fX = some ⟨ocX, odX, .func (PySem.W.fnOf "is_number" "is_number" (defArgs s_is_number) (defBody s_is_number) (defScope s_is_number) .none kVX dcX pmX anX cdX ctX), slX⟩)
    (cX : PySem.W.codeIn K cdX "is_number" = true) (kX : PySem.W.keepIn K (.ref fX) = true)
    {f0 : Addr}
    {od0 an0 : Option Addr} {sl0 : Array (Option Value)} {oc0 kV0 dc0 pm0 cd0 ct0 : Value}
    {f1 : Addr}
    {od1 an1 : Option Addr} {sl1 : Array (Option Value)} {oc1 kV1 dc1 pm1 cd1 ct1 : Value}
    {f2 : Addr}
    {od2 an2 : Option Addr} {sl2 : Array (Option Value)} {oc2 kV2 dc2 pm2 cd2 ct2 : Value}
    {f3 : Addr}
    {od3 an3 : Option Addr} {sl3 : Array (Option Value)} {oc3 kV3 dc3 pm3 cd3 ct3 : Value}
    {f4 : Addr}
    {od4 an4 : Option Addr} {sl4 : Array (Option Value)} {oc4 kV4 dc4 pm4 cd4 ct4 : Value}
    {f5 : Addr}
    {od5 an5 : Option Addr} {sl5 : Array (Option Value)} {oc5 kV5 dc5 pm5 cd5 ct5 : Value}
    {f6 : Addr}
    {od6 an6 : Option Addr} {sl6 : Array (Option Value)} {oc6 kV6 dc6 pm6 cd6 ct6 : Value}
    {f7 : Addr}
    {od7 an7 : Option Addr} {sl7 : Array (Option Value)} {oc7 kV7 dc7 pm7 cd7 ct7 : Value}
    {f8 : Addr}
    {od8 an8 : Option Addr} {sl8 : Array (Option Value)} {oc8 kV8 dc8 pm8 cd8 ct8 : Value}
    {f9 : Addr}
    {od9 an9 : Option Addr} {sl9 : Array (Option Value)} {oc9 kV9 dc9 pm9 cd9 ct9 : Value}
    {f10 : Addr}
    {od10 an10 : Option Addr} {sl10 : Array (Option Value)} {oc10 kV10 dc10 pm10 cd10 ct10 : Value}
    {f11 : Addr}
    {od11 an11 : Option Addr} {sl11 : Array (Option Value)} {oc11 kV11 dc11 pm11 cd11 ct11 : Value}
    {f12 : Addr}
    {od12 an12 : Option Addr} {sl12 : Array (Option Value)} {oc12 kV12 dc12 pm12 cd12 ct12 : Value}
    {f13 : Addr}
    {od13 an13 : Option Addr} {sl13 : Array (Option Value)} {oc13 kV13 dc13 pm13 cd13 ct13 : Value}
    {f14 : Addr}
    {od14 an14 : Option Addr} {sl14 : Array (Option Value)} {oc14 kV14 dc14 pm14 cd14 ct14 : Value}
    {f15 : Addr}
    {od15 an15 : Option Addr} {sl15 : Array (Option Value)} {oc15 kV15 dc15 pm15 cd15 ct15 : Value}
    {f16 : Addr}
    {od16 an16 : Option Addr} {sl16 : Array (Option Value)} {oc16 kV16 dc16 pm16 cd16 ct16 : Value}
    {f17 : Addr}
    {od17 an17 : Option Addr} {sl17 : Array (Option Value)} {oc17 kV17 dc17 pm17 cd17 ct17 : Value}
    {f18 : Addr}
    {od18 an18 : Option Addr} {sl18 : Array (Option Value)} {oc18 kV18 dc18 pm18 cd18 ct18 : Value}
    {f19 : Addr}
    {od19 an19 : Option Addr} {sl19 : Array (Option Value)} {oc19 kV19 dc19 pm19 cd19 ct19 : Value}
    {f20 : Addr}
    {od20 an20 : Option Addr} {sl20 : Array (Option Value)} {oc20 kV20 dc20 pm20 cd20 ct20 : Value}
    {f21 : Addr}
    {od21 an21 : Option Addr} {sl21 : Array (Option Value)} {oc21 kV21 dc21 pm21 cd21 ct21 : Value}
    {CE0 : Addr} {nmE0 qE0 : Str} {NE0 : Addr} {bsE0 : List Value} {snE0 : List Str} {subE0 : List Value} {abE0 : Bool} {colE0 : Option Bool} {ddE0 : Option Addr} {m0E0 m1E0 m2E0 m3E0 m5E0 : Option Value} {iE0 : Addr}
    {BE0_0 : Addr}
    {odE0 anE0 : Option Addr} {slE0 : Array (Option Value)} {ocE0 kVE0 dcE0 pmE0 cdE0 ctE0 : Value}
    {CE1 : Addr} {nmE1 qE1 : Str} {NE1 : Addr} {bsE1 : List Value} {snE1 : List Str} {subE1 : List Value} {abE1 : Bool} {colE1 : Option Bool} {ddE1 : Option Addr} {m0E1 m1E1 m2E1 m3E1 m5E1 : Option Value} {iE1 : Addr}
    {BE1_0 : Addr}
    {odE1 anE1 : Option Addr} {slE1 : Array (Option Value)} {ocE1 kVE1 dcE1 pmE1 cdE1 ctE1 : Value}
    {CZ0 : Addr} {nmZ0 qZ0 : Str} {NZ0 : Addr} {bsZ0 : List Value} {snZ0 : List Str} {subZ0 : List Value} {abZ0 : Bool} {colZ0 : Option Bool} {ddZ0 : Option Addr} {m0Z0 m1Z0 m2Z0 m3Z0 m5Z0 : Option Value} {iZ0 : Addr}
    {BZ0_0 : Addr}
    {odZ0 anZ0 : Option Addr} {slZ0 : Array (Option Value)} {ocZ0 kVZ0 dcZ0 pmZ0 cdZ0 ctZ0 : Value}
    {CS CV : Addr}
    {fI TI : Addr} {tcI : Value} {tdI : Option Addr} {tnI : Nat} {tsI : Array (Option Value)}
    {fO pO TO : Addr} {tcO : Value} {tdO : Option Addr} {tnO : Nat} {tsO : Array (Option Value)} {restO restN : List Value}
    {fVI fN pN fV fA fE : Addr} {t1 t2 : Tok}
    {odxI anxI : Option Addr} {slxI : Array (Option Value)} {ocxI kVxI dcxI pmxI cdxI ctxI : Value}
    {odxO anxO : Option Addr} {slxO : Array (Option Value)} {ocxO kVxO dcxO pmxO cdxO ctxO : Value}
    {odyI anyI : Option Addr} {slyI : Array (Option Value)} {ocyI kVyI dcyI pmyI cdyI ctyI : Value}
    {odyN anyN : Option Addr} {slyN : Array (Option Value)} {ocyN kVyN dcyN pmyN cdyN ctyN : Value}
    {odyV anyV : Option Addr} {slyV : Array (Option Value)} {ocyV kVyV dcyV pmyV cdyV ctyV : Value}
    {odyA anyA : Option Addr} {slyA : Array (Option Value)} {ocyA kVyA dcyA pmyA cdyA ctyA : Value}
    {odyE anyE : Option Addr} {slyE : Array (Option Value)} {ocyE kVyE dcyE pmyE cdyE ctyE : Value}
    (a0 : PySem.W.nsIn K mainGlobals "within" = some (some (.ref f0)))
    (l0 : K.lookup f0 = some ⟨oc0, od0, .func (PySem.W.fnOf "within" "within" (defArgs s_within) (defBody s_within) (defScope s_within) .none kV0 dc0 pm0 an0 cd0 ct0), sl0⟩)
    (c0 : PySem.W.codeIn K cd0 "within" = true)
    (k0 : PySem.W.keepIn K (.ref f0) = true)
    (a1 : PySem.W.nsIn K mainGlobals "is_whole" = some (some (.ref f1)))
    (l1 : K.lookup f1 = some ⟨oc1, od1, .func (PySem.W.fnOf "is_whole" "is_whole" (defArgs s_is_whole) (defBody s_is_whole) (defScope s_is_whole) .none kV1 dc1 pm1 an1 cd1 ct1), sl1⟩)
    (c1 : PySem.W.codeIn K cd1 "is_whole" = true)
    (k1 : PySem.W.keepIn K (.ref f1) = true)
    (a2 : PySem.W.nsIn K mainGlobals "is_day_set" = some (some (.ref f2)))
    (l2 : K.lookup f2 = some ⟨oc2, od2, .func (PySem.W.fnOf "is_day_set" "is_day_set" (defArgs s_is_day_set) (defBody s_is_day_set) (defScope s_is_day_set) .none kV2 dc2 pm2 an2 cd2 ct2), sl2⟩)
    (c2 : PySem.W.codeIn K cd2 "is_day_set" = true)
    (k2 : PySem.W.keepIn K (.ref f2) = true)
    (a3 : PySem.W.nsIn K mainGlobals "verdict_on" = some (some (.ref f3)))
    (l3 : K.lookup f3 = some ⟨oc3, od3, .func (PySem.W.fnOf "verdict_on" "verdict_on" (defArgs s_verdict_on) (defBody s_verdict_on) (defScope s_verdict_on) .none kV3 dc3 pm3 an3 cd3 ct3), sl3⟩)
    (c3 : PySem.W.codeIn K cd3 "verdict_on" = true)
    (k3 : PySem.W.keepIn K (.ref f3) = true)
    (a4 : PySem.W.nsIn K mainGlobals "verdicts_of" = some (some (.ref f4)))
    (l4 : K.lookup f4 = some ⟨oc4, od4, .func (PySem.W.fnOf "verdicts_of" "verdicts_of" (defArgs s_verdicts_of) (defBody s_verdicts_of) (defScope s_verdicts_of) .none kV4 dc4 pm4 an4 cd4 ct4), sl4⟩)
    (c4 : PySem.W.codeIn K cd4 "verdicts_of" = true)
    (k4 : PySem.W.keepIn K (.ref f4) = true)
    (a5 : PySem.W.nsIn K mainGlobals "joined" = some (some (.ref f5)))
    (l5 : K.lookup f5 = some ⟨oc5, od5, .func (PySem.W.fnOf "joined" "joined" (defArgs s_joined) (defBody s_joined) (defScope s_joined) .none kV5 dc5 pm5 an5 cd5 ct5), sl5⟩)
    (c5 : PySem.W.codeIn K cd5 "joined" = true)
    (k5 : PySem.W.keepIn K (.ref f5) = true)
    (a6 : PySem.W.nsIn K mainGlobals "sharper" = some (some (.ref f6)))
    (l6 : K.lookup f6 = some ⟨oc6, od6, .func (PySem.W.fnOf "sharper" "sharper" (defArgs s_sharper) (defBody s_sharper) (defScope s_sharper) .none kV6 dc6 pm6 an6 cd6 ct6), sl6⟩)
    (c6 : PySem.W.codeIn K cd6 "sharper" = true)
    (k6 : PySem.W.keepIn K (.ref f6) = true)
    (a7 : PySem.W.nsIn K mainGlobals "_law_bag" = some (some (.ref f7)))
    (l7 : K.lookup f7 = some ⟨oc7, od7, .func (PySem.W.fnOf "_law_bag" "_law_bag" (defArgs s_l_bag) (defBody s_l_bag) (defScope s_l_bag) .none kV7 dc7 pm7 an7 cd7 ct7), sl7⟩)
    (c7 : PySem.W.codeIn K cd7 "_law_bag" = true)
    (k7 : PySem.W.keepIn K (.ref f7) = true)
    (a8 : PySem.W.nsIn K mainGlobals "_law_take" = some (some (.ref f8)))
    (l8 : K.lookup f8 = some ⟨oc8, od8, .func (PySem.W.fnOf "_law_take" "_law_take" (defArgs s_l_take) (defBody s_l_take) (defScope s_l_take) .none kV8 dc8 pm8 an8 cd8 ct8), sl8⟩)
    (c8 : PySem.W.codeIn K cd8 "_law_take" = true)
    (k8 : PySem.W.keepIn K (.ref f8) = true)
    (a9 : PySem.W.nsIn K mainGlobals "_law_of" = some (some (.ref f9)))
    (l9 : K.lookup f9 = some ⟨oc9, od9, .func (PySem.W.fnOf "_law_of" "_law_of" (defArgs s_l_of) (defBody s_l_of) (defScope s_l_of) .none kV9 dc9 pm9 an9 cd9 ct9), sl9⟩)
    (c9 : PySem.W.codeIn K cd9 "_law_of" = true)
    (k9 : PySem.W.keepIn K (.ref f9) = true)
    (a10 : PySem.W.nsIn K mainGlobals "_law_pair" = some (some (.ref f10)))
    (l10 : K.lookup f10 = some ⟨oc10, od10, .func (PySem.W.fnOf "_law_pair" "_law_pair" (defArgs s_l_pair) (defBody s_l_pair) (defScope s_l_pair) .none kV10 dc10 pm10 an10 cd10 ct10), sl10⟩)
    (c10 : PySem.W.codeIn K cd10 "_law_pair" = true)
    (k10 : PySem.W.keepIn K (.ref f10) = true)
    (a11 : PySem.W.nsIn K mainGlobals "_law_word" = some (some (.ref f11)))
    (l11 : K.lookup f11 = some ⟨oc11, od11, .func (PySem.W.fnOf "_law_word" "_law_word" (defArgs s_l_word) (defBody s_l_word) (defScope s_l_word) .none kV11 dc11 pm11 an11 cd11 ct11), sl11⟩)
    (c11 : PySem.W.codeIn K cd11 "_law_word" = true)
    (k11 : PySem.W.keepIn K (.ref f11) = true)
    (a12 : PySem.W.nsIn K mainGlobals "_law_sum" = some (some (.ref f12)))
    (l12 : K.lookup f12 = some ⟨oc12, od12, .func (PySem.W.fnOf "_law_sum" "_law_sum" (defArgs s_l_sum) (defBody s_l_sum) (defScope s_l_sum) .none kV12 dc12 pm12 an12 cd12 ct12), sl12⟩)
    (c12 : PySem.W.codeIn K cd12 "_law_sum" = true)
    (k12 : PySem.W.keepIn K (.ref f12) = true)
    (a13 : PySem.W.nsIn K mainGlobals "_law_sharper" = some (some (.ref f13)))
    (l13 : K.lookup f13 = some ⟨oc13, od13, .func (PySem.W.fnOf "_law_sharper" "_law_sharper" (defArgs s_l_sharper) (defBody s_l_sharper) (defScope s_l_sharper) .none kV13 dc13 pm13 an13 cd13 ct13), sl13⟩)
    (c13 : PySem.W.codeIn K cd13 "_law_sharper" = true)
    (k13 : PySem.W.keepIn K (.ref f13) = true)
    (a14 : PySem.W.nsIn K mainGlobals "_law_told" = some (some (.ref f14)))
    (l14 : K.lookup f14 = some ⟨oc14, od14, .func (PySem.W.fnOf "_law_told" "_law_told" (defArgs s_l_told) (defBody s_l_told) (defScope s_l_told) .none kV14 dc14 pm14 an14 cd14 ct14), sl14⟩)
    (c14 : PySem.W.codeIn K cd14 "_law_told" = true)
    (k14 : PySem.W.keepIn K (.ref f14) = true)
    (a15 : PySem.W.nsIn K mainGlobals "_law_blunter" = some (some (.ref f15)))
    (l15 : K.lookup f15 = some ⟨oc15, od15, .func (PySem.W.fnOf "_law_blunter" "_law_blunter" (defArgs s_l_blunter) (defBody s_l_blunter) (defScope s_l_blunter) .none kV15 dc15 pm15 an15 cd15 ct15), sl15⟩)
    (c15 : PySem.W.codeIn K cd15 "_law_blunter" = true)
    (k15 : PySem.W.keepIn K (.ref f15) = true)
    (a16 : PySem.W.nsIn K mainGlobals "_law_sums" = some (some (.ref f16)))
    (l16 : K.lookup f16 = some ⟨oc16, od16, .func (PySem.W.fnOf "_law_sums" "_law_sums" (defArgs s_l_sums) (defBody s_l_sums) (defScope s_l_sums) .none kV16 dc16 pm16 an16 cd16 ct16), sl16⟩)
    (c16 : PySem.W.codeIn K cd16 "_law_sums" = true)
    (k16 : PySem.W.keepIn K (.ref f16) = true)
    (a17 : PySem.W.nsIn K mainGlobals "_law_order" = some (some (.ref f17)))
    (l17 : K.lookup f17 = some ⟨oc17, od17, .func (PySem.W.fnOf "_law_order" "_law_order" (defArgs s_l_order) (defBody s_l_order) (defScope s_l_order) .none kV17 dc17 pm17 an17 cd17 ct17), sl17⟩)
    (c17 : PySem.W.codeIn K cd17 "_law_order" = true)
    (k17 : PySem.W.keepIn K (.ref f17) = true)
    (a18 : PySem.W.nsIn K mainGlobals "_law_joined" = some (some (.ref f18)))
    (l18 : K.lookup f18 = some ⟨oc18, od18, .func (PySem.W.fnOf "_law_joined" "_law_joined" (defArgs s_l_joined) (defBody s_l_joined) (defScope s_l_joined) .none kV18 dc18 pm18 an18 cd18 ct18), sl18⟩)
    (c18 : PySem.W.codeIn K cd18 "_law_joined" = true)
    (k18 : PySem.W.keepIn K (.ref f18) = true)
    (a19 : PySem.W.nsIn K mainGlobals "_law_refused" = some (some (.ref f19)))
    (l19 : K.lookup f19 = some ⟨oc19, od19, .func (PySem.W.fnOf "_law_refused" "_law_refused" (defArgs s_l_refused) (defBody s_l_refused) (defScope s_l_refused) .none kV19 dc19 pm19 an19 cd19 ct19), sl19⟩)
    (c19 : PySem.W.codeIn K cd19 "_law_refused" = true)
    (k19 : PySem.W.keepIn K (.ref f19) = true)
    (a20 : PySem.W.nsIn K mainGlobals "_law_refusals" = some (some (.ref f20)))
    (l20 : K.lookup f20 = some ⟨oc20, od20, .func (PySem.W.fnOf "_law_refusals" "_law_refusals" (defArgs s_l_refusals) (defBody s_l_refusals) (defScope s_l_refusals) .none kV20 dc20 pm20 an20 cd20 ct20), sl20⟩)
    (c20 : PySem.W.codeIn K cd20 "_law_refusals" = true)
    (k20 : PySem.W.keepIn K (.ref f20) = true)
    (a21 : PySem.W.nsIn K mainGlobals "law" = some (some (.ref f21)))
    (l21 : K.lookup f21 = some ⟨oc21, od21, .func (PySem.W.fnOf "law" "law" (defArgs s_law) (defBody s_law) (defScope s_law) .none kV21 dc21 pm21 an21 cd21 ct21), sl21⟩)
    (c21 : PySem.W.codeIn K cd21 "law" = true)
    (k21 : PySem.W.keepIn K (.ref f21) = true)
    (eaE0 : PySem.W.nsIn K mainGlobals "NoDay" = some (some (.ref CE0)))
    (exE0 : K.lookup CE0 = some (excClassObj nmE0 qE0 CE0 NE0 bsE0 [.ref BE0_0, .type "ValueError", .type "Exception", .type "BaseException", .type "object"] true snE0 subE0 abE0 colE0 ddE0 m0E0 m1E0 m2E0 m3E0 m5E0 "ValueError.__new__"))
    (esE0 : PySem.W.findIn K (.ref CE0) "__setattr__" = some (some (.builtin "object.__setattr__")))
    (eiE0 : PySem.W.findIn K (.ref CE0) "__init__" = some (some (.ref iE0)))
    (etE0 : PySem.W.typeIn K (.ref iE0) = some (.type "function"))
    (lE0 : K.lookup iE0 = some ⟨ocE0, odE0, .func (PySem.W.fnOf "__init__" "NoDay.__init__" (defArgs s_NoDay_init) (defBody s_NoDay_init) (defScope s_NoDay_init) .none kVE0 dcE0 pmE0 anE0 cdE0 ctE0), slE0⟩)
    (cE0 : PySem.W.codeIn K cdE0 "NoDay.__init__" = true)
    (kE0 : PySem.W.keepIn K (.ref iE0) = true)
    (ekE0 : PySem.W.keepIn K (.ref CE0) = true)
    (eeE0 : PySem.W.subIn K (.ref CE0) (.type "BaseException") = some true)
    (etyE0 : PySem.W.typeIn K (.ref CE0) = some (.type "type"))
    (eicE0 : PySem.W.isClsIn K CE0 = true)
    (esuE0 : PySem.W.subIn K (.ref CE0) (.ref CE0) = some true)
    (egaE0 : PySem.W.findIn K (.ref CE0) "__getattribute__" = some (some (.builtin "BaseException.__getattribute__")))
    (eggE0 : PySem.W.findIn K (.ref CE0) "__getattr__" = some none)
    (ehdE0 : PySem.W.hasDictIn K CE0 = true)
    (enoE0 : PySem.W.findIn K (.ref CE0) "day" = some none)
    (eaE1 : PySem.W.nsIn K mainGlobals "BadSaying" = some (some (.ref CE1)))
    (exE1 : K.lookup CE1 = some (excClassObj nmE1 qE1 CE1 NE1 bsE1 [.ref BE1_0, .type "ValueError", .type "Exception", .type "BaseException", .type "object"] true snE1 subE1 abE1 colE1 ddE1 m0E1 m1E1 m2E1 m3E1 m5E1 "ValueError.__new__"))
    (esE1 : PySem.W.findIn K (.ref CE1) "__setattr__" = some (some (.builtin "object.__setattr__")))
    (eiE1 : PySem.W.findIn K (.ref CE1) "__init__" = some (some (.ref iE1)))
    (etE1 : PySem.W.typeIn K (.ref iE1) = some (.type "function"))
    (lE1 : K.lookup iE1 = some ⟨ocE1, odE1, .func (PySem.W.fnOf "__init__" "BadSaying.__init__" (defArgs s_BadSaying_init) (defBody s_BadSaying_init) (defScope s_BadSaying_init) .none kVE1 dcE1 pmE1 anE1 cdE1 ctE1), slE1⟩)
    (cE1 : PySem.W.codeIn K cdE1 "BadSaying.__init__" = true)
    (kE1 : PySem.W.keepIn K (.ref iE1) = true)
    (ekE1 : PySem.W.keepIn K (.ref CE1) = true)
    (eeE1 : PySem.W.subIn K (.ref CE1) (.type "BaseException") = some true)
    (etyE1 : PySem.W.typeIn K (.ref CE1) = some (.type "type"))
    (eicE1 : PySem.W.isClsIn K CE1 = true)
    (esuE1 : PySem.W.subIn K (.ref CE1) (.ref CE1) = some true)
    (egaE1 : PySem.W.findIn K (.ref CE1) "__getattribute__" = some (some (.builtin "BaseException.__getattribute__")))
    (eggE1 : PySem.W.findIn K (.ref CE1) "__getattr__" = some none)
    (ehdE1 : PySem.W.hasDictIn K CE1 = true)
    (enoE1 : PySem.W.findIn K (.ref CE1) "what" = some none)
    (eaZ0 : PySem.W.nsIn K mainGlobals "BadVerdicts" = some (some (.ref CZ0)))
    (exZ0 : K.lookup CZ0 = some (excClassObj nmZ0 qZ0 CZ0 NZ0 bsZ0 [.ref BZ0_0, .type "ValueError", .type "Exception", .type "BaseException", .type "object"] true snZ0 subZ0 abZ0 colZ0 ddZ0 m0Z0 m1Z0 m2Z0 m3Z0 m5Z0 "ValueError.__new__"))
    (esZ0 : PySem.W.findIn K (.ref CZ0) "__setattr__" = some (some (.builtin "object.__setattr__")))
    (eiZ0 : PySem.W.findIn K (.ref CZ0) "__init__" = some (some (.ref iZ0)))
    (etZ0 : PySem.W.typeIn K (.ref iZ0) = some (.type "function"))
    (lZ0 : K.lookup iZ0 = some ⟨ocZ0, odZ0, .func (PySem.W.fnOf "__init__" "BadVerdicts.__init__" (defArgs s_BadVerdicts_init) (defBody s_BadVerdicts_init) (defScope s_BadVerdicts_init) .none kVZ0 dcZ0 pmZ0 anZ0 cdZ0 ctZ0), slZ0⟩)
    (cZ0 : PySem.W.codeIn K cdZ0 "BadVerdicts.__init__" = true)
    (kZ0 : PySem.W.keepIn K (.ref iZ0) = true)
    (ekZ0 : PySem.W.keepIn K (.ref CZ0) = true)
    (eeZ0 : PySem.W.subIn K (.ref CZ0) (.type "BaseException") = some true)
    (etyZ0 : PySem.W.typeIn K (.ref CZ0) = some (.type "type"))
    (eicZ0 : PySem.W.isClsIn K CZ0 = true)
    (esuZ0 : PySem.W.subIn K (.ref CZ0) (.ref CZ0) = some true)
    (z_len : PySem.W.nsIn K mainGlobals "len" = some none)
    (z_abs : PySem.W.nsIn K mainGlobals "abs" = some none)
    (z_int : PySem.W.nsIn K mainGlobals "int" = some none)
    (z_enumerate : PySem.W.nsIn K mainGlobals "enumerate" = some none)
    (z_range : PySem.W.nsIn K mainGlobals "range" = some none)
    (z_isinstance : PySem.W.nsIn K mainGlobals "isinstance" = some none)
    (z_bool : PySem.W.nsIn K mainGlobals "bool" = some none)
    (z_max : PySem.W.nsIn K mainGlobals "max" = some none)
    (z_min : PySem.W.nsIn K mainGlobals "min" = some none)
    (z_repr : PySem.W.nsIn K mainGlobals "repr" = some none)
    (z_tuple : PySem.W.nsIn K mainGlobals "tuple" = some none)
    (h1 : PySem.W.nsIn K mainGlobals "HIGHEST_DAY_SET" = some (some (.int 65535 t1)))
    (h2 : PySem.W.nsIn K mainGlobals "HIGHEST_DAY" = some (some (.int 15 t2)))
    (sS : PySem.W.nsIn K mainGlobals "Saying" = some (some (.ref CS)))
    (sV : PySem.W.nsIn K mainGlobals "Verdicts" = some (some (.ref CV)))
    (SPg : PySem.W.plainGet K CS Str.empty = true)
    (SHd : PySem.W.hasDictIn K CS = true)
    (SPo : PySem.W.plainOver K CS = true)
    (SSa : PySem.W.findIn K (.ref CS) "__setattr__" = some (some (.builtin "object.__setattr__")))
    (VPg : PySem.W.plainGet K CV Str.empty = true)
    (VHd : PySem.W.hasDictIn K CV = true)
    (VPo : PySem.W.plainOver K CV = true)
    (VSa : PySem.W.findIn K (.ref CV) "__setattr__" = some (some (.builtin "object.__setattr__")))
    (nSW : PySem.W.findIn K (.ref CS) "where" = some none)
    (nST : PySem.W.findIn K (.ref CS) "then" = some none)
    (nSU : PySem.W.findIn K (.ref CS) "usual" = some none)
    (nSC : PySem.W.findIn K (.ref CS) "confirm" = some none)
    (nSB : PySem.W.findIn K (.ref CS) "broken" = some none)
    (nSL : PySem.W.findIn K (.ref CS) "low" = some none)
    (nSH : PySem.W.findIn K (.ref CS) "high" = some none)
    (nSS : PySem.W.findIn K (.ref CS) "step" = some none)
    (nVC : PySem.W.findIn K (.ref CV) "confirm" = some none)
    (nVB : PySem.W.findIn K (.ref CV) "broken" = some none)
    (vHa : PySem.W.findIn K (.ref CV) "__class__" = some (some (.builtin "object.__class__")))
    (vHn : PySem.W.specialIn K (.builtin "object.__class__") "__get__" = some (some (.builtin "getset_descriptor.__get__")))
    (vTk : PySem.W.takesIn K (.builtin "object.__class__") = some true)
    (vHm : PySem.W.mroIn K CV (.type "object") = some true)
    (vIc : PySem.W.isClsIn K CV = true)
    (vTy : PySem.W.typeIn K (.ref CV) = some (.type "type"))
    (vNf : PySem.W.subIn K (.type "tuple") (.ref CV) = some false)
    (vEq : PySem.W.findIn K (.ref CV) "__eq__" = some (some (.ref fE)))
    (vFe : PySem.W.isFn K (.ref fE) = true)
    (vAd : PySem.W.findIn K (.ref CV) "__add__" = some (some (.ref fA)))
    (vFa : PySem.W.isFn K (.ref fA) = true)
    (vSf : PySem.W.selfFirst K CV = true)
    (mSMk : PySem.W.makesIn K CS = true)
    (mSIn : PySem.W.findIn K (.ref CS) "__init__" = some (some (.ref fI)))
    (mSFn : PySem.W.isFn K (.ref fI) = true)
    (mSKp : PySem.W.keepIn K (.ref CS) = true)
    (mVMk : PySem.W.makesIn K CV = true)
    (mVIn : PySem.W.findIn K (.ref CV) "__init__" = some (some (.ref fVI)))
    (mVFn : PySem.W.isFn K (.ref fVI) = true)
    (mVKp : PySem.W.keepIn K (.ref CV) = true)
    (vOn : PySem.W.findIn K (.ref CV) "on" = some (some (.ref fV)))
    (vOf : PySem.W.isFn K (.ref fV) = true)
    (rSRd : PySem.W.readsIn K CS (.type "type") = true)
    (rSGa : PySem.W.specialIn K (.ref CS) "__getattribute__" = some (some (.builtin "type.__getattribute__")))
    (rSAt : PySem.W.findCls K (.ref CS) (.type "type") "of_days" = some (.get (.builtin "classmethod.__get__") (.ref pO) .none (.ref CS)))
    (rSRc : PySem.W.recIn K pO "classmethod" = some (.ref fO :: restO))
    (rSFi : PySem.W.fnIn K fO = true)
    (rVRd : PySem.W.readsIn K CV (.type "type") = true)
    (rVGa : PySem.W.specialIn K (.ref CV) "__getattribute__" = some (some (.builtin "type.__getattribute__")))
    (rVAt : PySem.W.findCls K (.ref CV) (.type "type") "none" = some (.get (.builtin "classmethod.__get__") (.ref pN) .none (.ref CV)))
    (rVRc : PySem.W.recIn K pN "classmethod" = some (.ref fN :: restN))
    (rVFi : PySem.W.fnIn K fN = true)
    (lxI : K.lookup fI = some ⟨ocxI, odxI, .func (PySem.W.fnOf "__init__" "Saying.__init__" (defArgs s_Saying_init) (defBody s_Saying_init) (defScope s_Saying_init) (.ref TI) kVxI dcxI pmxI anxI cdxI ctxI), slxI⟩)
    (cxI : PySem.W.codeIn K cdxI "Saying.__init__" = true)
    (kxI : PySem.W.keepIn K (.ref fI) = true)
    (dxI : K.lookup TI = some ⟨tcI, tdI, .seq #[.bool true] tnI, tsI⟩)
    (lxO : K.lookup fO = some ⟨ocxO, odxO, .func (PySem.W.fnOf "of_days" "Saying.of_days" (defArgs s_Saying_of_days) (defBody s_Saying_of_days) (defScope s_Saying_of_days) (.ref TO) kVxO dcxO pmxO anxO cdxO ctxO), slxO⟩)
    (cxO : PySem.W.codeIn K cdxO "Saying.of_days" = true)
    (kxO : PySem.W.keepIn K (.ref fO) = true)
    (dxO : K.lookup TO = some ⟨tcO, tdO, .seq #[.bool true] tnO, tsO⟩)
    (lyI : K.lookup fVI = some ⟨ocyI, odyI, .func (PySem.W.fnOf "__init__" "Verdicts.__init__" (defArgs s_Verdicts_init) (defBody s_Verdicts_init) (defScope s_Verdicts_init) .none kVyI dcyI pmyI anyI cdyI ctyI), slyI⟩)
    (cyI : PySem.W.codeIn K cdyI "Verdicts.__init__" = true)
    (kyI : PySem.W.keepIn K (.ref fVI) = true)
    (lyN : K.lookup fN = some ⟨ocyN, odyN, .func (PySem.W.fnOf "none" "Verdicts.none" (defArgs s_Verdicts_none) (defBody s_Verdicts_none) (defScope s_Verdicts_none) .none kVyN dcyN pmyN anyN cdyN ctyN), slyN⟩)
    (cyN : PySem.W.codeIn K cdyN "Verdicts.none" = true)
    (kyN : PySem.W.keepIn K (.ref fN) = true)
    (lyV : K.lookup fV = some ⟨ocyV, odyV, .func (PySem.W.fnOf "on" "Verdicts.on" (defArgs s_Verdicts_on) (defBody s_Verdicts_on) (defScope s_Verdicts_on) .none kVyV dcyV pmyV anyV cdyV ctyV), slyV⟩)
    (cyV : PySem.W.codeIn K cdyV "Verdicts.on" = true)
    (kyV : PySem.W.keepIn K (.ref fV) = true)
    (lyA : K.lookup fA = some ⟨ocyA, odyA, .func (PySem.W.fnOf "__add__" "Verdicts.__add__" (defArgs s_Verdicts_add) (defBody s_Verdicts_add) (defScope s_Verdicts_add) .none kVyA dcyA pmyA anyA cdyA ctyA), slyA⟩)
    (cyA : PySem.W.codeIn K cdyA "Verdicts.__add__" = true)
    (kyA : PySem.W.keepIn K (.ref fA) = true)
    (lyE : K.lookup fE = some ⟨ocyE, odyE, .func (PySem.W.fnOf "__eq__" "Verdicts.__eq__" (defArgs s_Verdicts_eq) (defBody s_Verdicts_eq) (defScope s_Verdicts_eq) .none kVyE dcyE pmyE anyE cdyE ctyE), slyE⟩)
    (cyE : PySem.W.codeIn K cdyE "Verdicts.__eq__" = true)
    (kyE : PySem.W.keepIn K (.ref fE) = true) :
    ∃ fd : FuncData, (∀ (s : Shared) (v : Value), BindsTo s fd ⟨[v], []⟩ [("_law_script", v)]) ∧ ∀ base : Heap, K.In base → base.Ns mainGlobals mg → FnG P w K mg base CX0 9 fa fd ["_law_script"] (sp_law K) := by
  have e := hfa.symm.trans (PySem.W.mg_of X G a21)
  cases e
  have F_within := fun_mk (st := s_within) l0 c0 k0
  have D_within : Df K mg "within" ["one", "other"] f0 _ := ⟨PySem.W.mg_of X G a0, k0, F_within.binds (ps := ["one", "other"]) fun _ _ _ _ _ _ us hl => match us, hl with | [_, _], _ => rfl⟩
  have F_is_number := fun_mk (st := s_is_number) lX cX kX
  have D_is_number : Df K mg "is_number" ["thing"] fX _ := ⟨PySem.W.mg_of X G aX, kX, F_is_number.binds (ps := ["thing"]) fun _ _ _ _ _ _ us hl => match us, hl with | [_], _ => rfl⟩
  have F_is_whole := fun_mk (st := s_is_whole) l1 c1 k1
  have D_is_whole : Df K mg "is_whole" ["thing", "low", "high"] f1 _ := ⟨PySem.W.mg_of X G a1, k1, F_is_whole.binds (ps := ["thing", "low", "high"]) fun _ _ _ _ _ _ us hl => match us, hl with | [_, _, _], _ => rfl⟩
  have F_is_day_set := fun_mk (st := s_is_day_set) l2 c2 k2
  have D_is_day_set : Df K mg "is_day_set" ["thing"] f2 _ := ⟨PySem.W.mg_of X G a2, k2, F_is_day_set.binds (ps := ["thing"]) fun _ _ _ _ _ _ us hl => match us, hl with | [_], _ => rfl⟩
  have F_verdict_on := fun_mk (st := s_verdict_on) l3 c3 k3
  have D_verdict_on : Df K mg "verdict_on" ["confirm", "broken", "day"] f3 _ := ⟨PySem.W.mg_of X G a3, k3, F_verdict_on.binds (ps := ["confirm", "broken", "day"]) fun _ _ _ _ _ _ us hl => match us, hl with | [_, _, _], _ => rfl⟩
  have F_verdicts_of := fun_mk (st := s_verdicts_of) l4 c4 k4
  have D_verdicts_of : Df K mg "verdicts_of" ["saying"] f4 _ := ⟨PySem.W.mg_of X G a4, k4, F_verdicts_of.binds (ps := ["saying"]) fun _ _ _ _ _ _ us hl => match us, hl with | [_], _ => rfl⟩
  have F_joined := fun_mk (st := s_joined) l5 c5 k5
  have D_joined : Df K mg "joined" ["sayings"] f5 _ := ⟨PySem.W.mg_of X G a5, k5, F_joined.binds (ps := ["sayings"]) fun _ _ _ _ _ _ us hl => match us, hl with | [_], _ => rfl⟩
  have F_sharper := fun_mk (st := s_sharper) l6 c6 k6
  have D_sharper : Df K mg "sharper" ["one", "other"] f6 _ := ⟨PySem.W.mg_of X G a6, k6, F_sharper.binds (ps := ["one", "other"]) fun _ _ _ _ _ _ us hl => match us, hl with | [_, _], _ => rfl⟩
  have F_l_bag := fun_mk (st := s_l_bag) l7 c7 k7
  have D_l_bag : Df K mg "_law_bag" ["_law_script", "_law_at"] f7 _ := ⟨PySem.W.mg_of X G a7, k7, F_l_bag.binds (ps := ["_law_script", "_law_at"]) fun _ _ _ _ _ _ us hl => match us, hl with | [_, _], _ => rfl⟩
  have F_l_take := fun_mk (st := s_l_take) l8 c8 k8
  have D_l_take : Df K mg "_law_take" ["_law_bag_here", "_law_many"] f8 _ := ⟨PySem.W.mg_of X G a8, k8, F_l_take.binds (ps := ["_law_bag_here", "_law_many"]) fun _ _ _ _ _ _ us hl => match us, hl with | [_, _], _ => rfl⟩
  have F_l_of := fun_mk (st := s_l_of) l9 c9 k9
  have D_l_of : Df K mg "_law_of" ["_law_bag_here", "_law_some"] f9 _ := ⟨PySem.W.mg_of X G a9, k9, F_l_of.binds (ps := ["_law_bag_here", "_law_some"]) fun _ _ _ _ _ _ us hl => match us, hl with | [_, _], _ => rfl⟩
  have F_l_pair := fun_mk (st := s_l_pair) l10 c10 k10
  have D_l_pair : Df K mg "_law_pair" ["_law_bag_here", "_law_days"] f10 _ := ⟨PySem.W.mg_of X G a10, k10, F_l_pair.binds (ps := ["_law_bag_here", "_law_days"]) fun _ _ _ _ _ _ us hl => match us, hl with | [_, _], _ => rfl⟩
  have F_l_word := fun_mk (st := s_l_word) l11 c11 k11
  have D_l_word : Df K mg "_law_word" ["_law_pair_here", "_law_day"] f11 _ := ⟨PySem.W.mg_of X G a11, k11, F_l_word.binds (ps := ["_law_pair_here", "_law_day"]) fun _ _ _ _ _ _ us hl => match us, hl with | [_, _], _ => rfl⟩
  have F_l_sum := fun_mk (st := s_l_sum) l12 c12 k12
  have D_l_sum : Df K mg "_law_sum" ["_law_pairs"] f12 _ := ⟨PySem.W.mg_of X G a12, k12, F_l_sum.binds (ps := ["_law_pairs"]) fun _ _ _ _ _ _ us hl => match us, hl with | [_], _ => rfl⟩
  have F_l_sharper := fun_mk (st := s_l_sharper) l13 c13 k13
  have D_l_sharper : Df K mg "_law_sharper" ["_law_one", "_law_other"] f13 _ := ⟨PySem.W.mg_of X G a13, k13, F_l_sharper.binds (ps := ["_law_one", "_law_other"]) fun _ _ _ _ _ _ us hl => match us, hl with | [_, _], _ => rfl⟩
  have F_l_told := fun_mk (st := s_l_told) l14 c14 k14
  have D_l_told : Df K mg "_law_told" ["_law_verdicts"] f14 _ := ⟨PySem.W.mg_of X G a14, k14, F_l_told.binds (ps := ["_law_verdicts"]) fun _ _ _ _ _ _ us hl => match us, hl with | [_], _ => rfl⟩
  have F_l_blunter := fun_mk (st := s_l_blunter) l15 c15 k15
  have D_l_blunter : Df K mg "_law_blunter" ["_law_bag_here", "_law_pair_here"] f15 _ := ⟨PySem.W.mg_of X G a15, k15, F_l_blunter.binds (ps := ["_law_bag_here", "_law_pair_here"]) fun _ _ _ _ _ _ us hl => match us, hl with | [_, _], _ => rfl⟩
  have F_l_sums := fun_mk (st := s_l_sums) l16 c16 k16
  have D_l_sums : Df K mg "_law_sums" ["_law_pairs"] f16 _ := ⟨PySem.W.mg_of X G a16, k16, F_l_sums.binds (ps := ["_law_pairs"]) fun _ _ _ _ _ _ us hl => match us, hl with | [_], _ => rfl⟩
  have F_l_order := fun_mk (st := s_l_order) l17 c17 k17
  have D_l_order : Df K mg "_law_order" ["_law_pairs", "_law_blunt", "_law_wide"] f17 _ := ⟨PySem.W.mg_of X G a17, k17, F_l_order.binds (ps := ["_law_pairs", "_law_blunt", "_law_wide"]) fun _ _ _ _ _ _ us hl => match us, hl with | [_, _, _], _ => rfl⟩
  have F_l_joined := fun_mk (st := s_l_joined) l18 c18 k18
  have D_l_joined : Df K mg "_law_joined" ["_law_bag_here", "_law_days"] f18 _ := ⟨PySem.W.mg_of X G a18, k18, F_l_joined.binds (ps := ["_law_bag_here", "_law_days"]) fun _ _ _ _ _ _ us hl => match us, hl with | [_, _], _ => rfl⟩
  have F_l_refused := fun_mk (st := s_l_refused) l19 c19 k19
  have D_l_refused : Df K mg "_law_refused" ["_law_confirm", "_law_broken"] f19 _ := ⟨PySem.W.mg_of X G a19, k19, F_l_refused.binds (ps := ["_law_confirm", "_law_broken"]) fun _ _ _ _ _ _ us hl => match us, hl with | [_, _], _ => rfl⟩
  have F_l_refusals := fun_mk (st := s_l_refusals) l20 c20 k20
  have D_l_refusals : Df K mg "_law_refusals" ["_law_bag_here", "_law_pair_here"] f20 _ := ⟨PySem.W.mg_of X G a20, k20, F_l_refusals.binds (ps := ["_law_bag_here", "_law_pair_here"]) fun _ _ _ _ _ _ us hl => match us, hl with | [_, _], _ => rfl⟩
  have F_law := fun_mk (st := s_law) l21 c21 k21
  have F_NoDay_init := fun_mk (st := s_NoDay_init) lE0 cE0 kE0
  have E_NoDay : ErrF K mg "NoDay" "day" CE0 iE0 _ := ⟨PySem.W.mg_of X G eaE0, ⟨⟨_, _, _, _, _, _, _, _, _, _, _, _, _, _, _, exE0, by rfl⟩, esE0, eeE0, etyE0, ekE0⟩, eiE0, etE0, F_NoDay_init.binds (ps := ["self", "day"]) fun _ _ _ _ _ _ us hl => (match us, hl with | [_, _], _ => rfl), exm_same eeE0 eicE0 etyE0 esuE0, ⟨egaE0, eggE0, eeE0, ehdE0⟩, enoE0⟩
  have F_BadSaying_init := fun_mk (st := s_BadSaying_init) lE1 cE1 kE1
  have E_BadSaying : ErrF K mg "BadSaying" "what" CE1 iE1 _ := ⟨PySem.W.mg_of X G eaE1, ⟨⟨_, _, _, _, _, _, _, _, _, _, _, _, _, _, _, exE1, by rfl⟩, esE1, eeE1, etyE1, ekE1⟩, eiE1, etE1, F_BadSaying_init.binds (ps := ["self", "what"]) fun _ _ _ _ _ _ us hl => (match us, hl with | [_, _], _ => rfl), exm_same eeE1 eicE1 etyE1 esuE1, ⟨egaE1, eggE1, eeE1, ehdE1⟩, enoE1⟩
  have F_BadVerdicts_init := fun_mk (st := s_BadVerdicts_init) lZ0 cZ0 kZ0
  have E_BadVerdicts : Err0 K mg "BadVerdicts" CZ0 iZ0 _ := ⟨PySem.W.mg_of X G eaZ0, ⟨⟨_, _, _, _, _, _, _, _, _, _, _, _, _, _, _, exZ0, by rfl⟩, esZ0, eeZ0, etyZ0, ekZ0⟩, eiZ0, etZ0, F_BadVerdicts_init.binds (ps := ["self"]) fun _ _ _ _ _ _ us hl => (match us, hl with | [_], _ => rfl), exm_same eeZ0 eicZ0 etyZ0 esuZ0⟩
  have z := fun {x : Str} (e : PySem.W.nsIn K mainGlobals x = some none) => PySem.W.mg_none_of X G e
  have T1 : Bt mg := ⟨z z_len, z z_abs, z z_int, z z_enumerate, z z_range⟩
  have T2 : BtY mg := ⟨z z_isinstance, z z_int, z z_bool, ⟨_, PySem.W.mg_of X G h1⟩, ⟨_, PySem.W.mg_of X G h2⟩⟩
  have T3 : BtR mg := ⟨z z_range⟩
  have T4 : BtO mg := ⟨z z_repr⟩
  have T5 : BtL mg := ⟨z z_range, z z_len, z z_max, z z_min⟩
  have T6 : BtN mg := ⟨z z_range, z z_len⟩
  have T7 : BtJ mg := ⟨z z_range, z z_len, z z_tuple⟩
  have gS := PySem.W.mg_of X G sS
  have gV := PySem.W.mg_of X G sV
  have SS : SayC K CS := ⟨⟨SPg, SHd, SPo, SSa⟩, nSW, nST, nSU, nSC, nSB, nSL, nSH, nSS⟩
  have SV : VerC K CV := ⟨⟨VPg, VHd, VPo, VSa⟩, nVC, nVB⟩
  have S2 : VerK K CV fE fA := ⟨vHa, vHn, vTk, vHm, kit_not vIc vTy vNf, vNf, vEq, vFe, vAd, vFa, vSf⟩
  have MS : Mk K CS fI := ⟨mSMk, mSIn, mSFn, mSKp⟩
  have MV : Mk K CV fVI := ⟨mVMk, mVIn, mVFn, mVKp⟩
  have FI := fund_mk (st := s_Saying_init) lxI cxI kxI dxI
  have FO := fund_mk (st := s_Saying_of_days) lxO cxO kxO dxO
  have FVI := fun_mk (st := s_Verdicts_init) lyI cyI kyI
  have FN := fun_mk (st := s_Verdicts_none) lyN cyN kyN
  have FV := fun_mk (st := s_Verdicts_on) lyV cyV kyV
  have FA := fun_mk (st := s_Verdicts_add) lyA cyA kyA
  have FE := fun_mk (st := s_Verdicts_eq) lyE cyE kyE
  have MON : Meth K CV "on" fV := ⟨vOn, vOf, kyV⟩
  have CRS : CRead K CS (.type "type") := ⟨rSRd, rSGa⟩
  have CMS : CMet K CS (.type "type") "of_days" pO fO := ⟨rSAt, ⟨_, rSRc⟩, rSFi⟩
  have CRV : CRead K CV (.type "type") := ⟨rVRd, rVGa⟩
  have CMV : CMet K CV (.type "type") "none" pN fN := ⟨rVAt, ⟨_, rVRc⟩, rVFi⟩
  have bI := init_full FI
  have bO := of_full FO
  have bVI : L2.Binds K _ ["self", "confirm", "broken"] [] := FVI.binds (ps := ["self", "confirm", "broken"]) fun _ _ _ _ _ _ us hl => match us, hl with | [_, _, _], _ => rfl
  have bN : L2.Binds K _ ["cls"] [] := FN.binds (ps := ["cls"]) fun _ _ _ _ _ _ us hl => match us, hl with | [_], _ => rfl
  have bV : L2.Binds K _ ["self", "day"] [] := FV.binds (ps := ["self", "day"]) fun _ _ _ _ _ _ us hl => match us, hl with | [_, _], _ => rfl
  have bA : L2.Binds K _ ["self", "other"] [] := FA.binds (ps := ["self", "other"]) fun _ _ _ _ _ _ us hl => match us, hl with | [_, _], _ => rfl
  have bE : L2.Binds K _ ["self", "other"] [] := FE.binds (ps := ["self", "other"]) fun _ _ _ _ _ _ us hl => match us, hl with | [_, _], _ => rfl
  refine ⟨PySem.W.fnOf "law" "law" (defArgs s_law) (defBody s_law) (defScope s_law) .none kV21 dc21 pm21 an21 cd21 ct21, fun s v => .of_eq rfl, fun base _ _ => ?_⟩
  have G_take := ok_l_take (P := P) (w := w) (base := base) F_l_take T1
  have G_of := ok_l_of F_l_of T1 D_l_take G_take
  have G_whole := ok_is_whole F_is_whole D_is_number (ok_is_number (P := P) (w := w) (base := base) F_is_number T2)
  have G_dset := ok_is_day_set F_is_day_set T2 D_is_whole G_whole
  have GI := ok_Saying_init FI T2 D_is_day_set G_dset E_BadSaying F_BadSaying_init
  have GO := ok_Saying_of_days FO D_is_day_set G_dset E_BadSaying F_BadSaying_init SS MS bI GI
  have GIV := ok_Verdicts_init FVI D_is_day_set G_dset E_BadVerdicts F_BadVerdicts_init
  have GN := ok_Verdicts_none (mg := mg) FN SV MV bVI GIV
  have GVo := ok_verdict_on F_verdict_on T2 D_is_whole G_whole E_NoDay F_NoDay_init
  have GV := ok_Verdicts_on FV SV D_verdict_on GVo
  have GA := ok_Verdicts_add FA SV gV MV bVI GIV
  have GE := ok_Verdicts_eq (P := P) (w := w) (base := base) FE T2 SV S2 gV
  have G_within := ok_within (P := P) (w := w) (mg := mg) (base := base) F_within
  have G_sharper := ok_sharper F_sharper SV D_within G_within
  have G_vof := ok_verdicts_of F_verdicts_of SS SV gV MV bVI GIV
  have G_join := ok_joined false F_joined S2 gV CRV CMV bN GN bA GA D_verdicts_of G_vof
  have G_joinT := ok_joined true F_joined S2 gV CRV CMV bN GN bA GA D_verdicts_of G_vof
  have G_pair := ok_l_pair F_l_pair T3 D_l_take G_take D_l_of G_of
  have G_word := ok_l_word (P := P) (w := w) (mg := mg) (base := base) F_l_word
  have G_sum := ok_l_sum F_l_sum T3 D_l_word G_word
  have G_lsharper := ok_l_sharper F_l_sharper T3 D_l_word G_word
  have G_told := ok_l_told (P := P) (w := w) (mg := mg) (base := base) F_l_told SV
  have G_blunter := ok_l_blunter F_l_blunter T3 D_l_take G_take
  have G_sums := ok_l_sums F_l_sums T3 SV S2 gV MV bVI GIV bA GA bE GE CRV CMV bN GN MON bV GV D_l_sum G_sum D_l_told G_told D_l_word G_word
  have G_order := ok_l_order F_l_order T6 SV S2 gV MV bVI GIV bA GA D_sharper G_sharper D_l_sharper G_lsharper
  have G_joined := ok_l_joined F_l_joined T7 SV S2 gS gV CRS CMS bO GO CRV CMV bN GN bE GE D_l_take G_take D_l_pair G_pair D_verdicts_of G_vof D_joined G_join G_joinT D_l_sum G_sum D_l_told G_told
  have G_refused := ok_l_refused F_l_refused E_BadVerdicts SV gV MV bVI GIV
  have G_ref := ok_l_refusals F_l_refusals T4 E_NoDay SV gV MV bVI GIV MON bV GV D_l_take G_take D_l_of G_of D_l_refused G_refused
  exact ok_law F_law T5 D_l_bag (ok_l_bag F_l_bag T1) D_l_take G_take D_l_of G_of D_l_pair G_pair D_l_blunter G_blunter D_l_sums G_sums D_l_order G_order D_l_joined G_joined D_l_refusals G_ref
theorem walk {l : PySem.W.OpenLaw} {q : Program} {loose : List Str} {XP : (Str → Option Value) → Heap → Prop} {YP : World → Heap → Prop} {d : DefRec} {K : Params → PySem.W.Frag} (hn : l.most = some 63) (hdf : d.params.defaults = [])
    (hY : ∀ (w : World) (h : Heap), YP w h → (K w.params).In h)
    (F : ∀ (w : World) (mg : Str → Option Value) (fa : Addr) (h : Heap), (K w.params).In h → h.Ns mainGlobals mg → mg d.name = some (.ref fa) →
      ∃ fd : FuncData, (∀ (s : Shared) (u : Value), BindsTo s fd ⟨[u], []⟩ [("_law_script", u)]) ∧ ∀ base : Heap, (K w.params).In base → base.Ns mainGlobals mg → FnG l.prog w (K w.params) mg base CX0 9 fa fd ["_law_script"] (sp_law (K w.params))) :
    PySem.W.WalkO q loose XP YP l.row.toRowW d [] (fun f vs => PySem.call f vs) :=
  walk_ofG (k := 9) (x := "_law_script") (sp := fun K => sp_law K) hn hdf ⟨rfl, by decide, by decide⟩ hY F (fun _ _ a ns hl hS => ⟨a, ns, rfl, hS, hl, fun _ => rfl⟩)
end My
open PySem PySem.W PyProof.Rows
set_option maxRecDepth 100000 in
set_option maxHeartbeats 0 in
theorem PySem.Challenge.cw_usualdays_k07_verdicts_joined_holds : PySem.Challenge.rw_usualdays_k07_verdicts_joined.Holds := by
  w_on; o_law; k_head; (case hw => w_witness2)
  k_fill
  refine My.walk (l := PySem.Challenge.rw_usualdays_k07_verdicts_joined) rfl rfl (fun w h Y => PySem.W.kIn_of Y) ?F
  case F =>
    intro w mg fa h KX G hmg
    refine' My.all_mk KX G hmg ?aX ?lX ?cX ?kX ?a0 ?l0 ?c0 ?k0 ?a1 ?l1 ?c1 ?k1 ?a2 ?l2 ?c2 ?k2 ?a3 ?l3 ?c3 ?k3 ?a4 ?l4 ?c4 ?k4 ?a5 ?l5 ?c5 ?k5 ?a6 ?l6 ?c6 ?k6 ?a7 ?l7 ?c7 ?k7 ?a8 ?l8 ?c8 ?k8 ?a9 ?l9 ?c9 ?k9 ?a10 ?l10 ?c10 ?k10 ?a11 ?l11 ?c11 ?k11 ?a12 ?l12 ?c12 ?k12 ?a13 ?l13 ?c13 ?k13 ?a14 ?l14 ?c14 ?k14 ?a15 ?l15 ?c15 ?k15 ?a16 ?l16 ?c16 ?k16 ?a17 ?l17 ?c17 ?k17 ?a18 ?l18 ?c18 ?k18 ?a19 ?l19 ?c19 ?k19 ?a20 ?l20 ?c20 ?k20 ?a21 ?l21 ?c21 ?k21 ?eaE0 ?exE0 ?esE0 ?eiE0 ?etE0 ?lE0 ?cE0 ?kE0 ?ekE0 ?eeE0 ?etyE0 ?eicE0 ?esuE0 ?egaE0 ?eggE0 ?ehdE0 ?enoE0 ?eaE1 ?exE1 ?esE1 ?eiE1 ?etE1 ?lE1 ?cE1 ?kE1 ?ekE1 ?eeE1 ?etyE1 ?eicE1 ?esuE1 ?egaE1 ?eggE1 ?ehdE1 ?enoE1 ?eaZ0 ?exZ0 ?esZ0 ?eiZ0 ?etZ0 ?lZ0 ?cZ0 ?kZ0 ?ekZ0 ?eeZ0 ?etyZ0 ?eicZ0 ?esuZ0 ?z_len ?z_abs ?z_int ?z_enumerate ?z_range ?z_isinstance ?z_bool ?z_max ?z_min ?z_repr ?z_tuple ?h1 ?h2 ?sS ?sV ?SPg ?SHd ?SPo ?SSa ?VPg ?VHd ?VPo ?VSa ?nSW ?nST ?nSU ?nSC ?nSB ?nSL ?nSH ?nSS ?nVC ?nVB ?vHa ?vHn ?vTk ?vHm ?vIc ?vTy ?vNf ?vEq ?vFe ?vAd ?vFa ?vSf ?mSMk ?mSIn ?mSFn ?mSKp ?mVMk ?mVIn ?mVFn ?mVKp ?vOn ?vOf ?rSRd ?rSGa ?rSAt ?rSRc ?rSFi ?rVRd ?rVGa ?rVAt ?rVRc ?rVFi ?lxI ?cxI ?kxI ?dxI ?lxO ?cxO ?kxO ?dxO ?lyI ?cyI ?kyI ?lyN ?cyN ?kyN ?lyV ?cyV ?kyV ?lyA ?cyA ?kyA ?lyE ?cyE ?kyE
    (case aX => k_is)
    (case lX => k_is)
    (case cX => k_is)
    (case kX => k_is)
    (case a0 => k_is)
    (case l0 => k_is)
    (case c0 => k_is)
    (case k0 => k_is)
    (case a1 => k_is)
    (case l1 => k_is)
    (case c1 => k_is)
    (case k1 => k_is)
    (case a2 => k_is)
    (case l2 => k_is)
    (case c2 => k_is)
    (case k2 => k_is)
    (case a3 => k_is)
    (case l3 => k_is)
    (case c3 => k_is)
    (case k3 => k_is)
    (case a4 => k_is)
    (case l4 => k_is)
    (case c4 => k_is)
    (case k4 => k_is)
    (case a5 => k_is)
    (case l5 => k_is)
    (case c5 => k_is)
    (case k5 => k_is)
    (case a6 => k_is)
    (case l6 => k_is)
    (case c6 => k_is)
    (case k6 => k_is)
    (case a7 => k_is)
    (case l7 => k_is)
    (case c7 => k_is)
    (case k7 => k_is)
    (case a8 => k_is)
    (case l8 => k_is)
    (case c8 => k_is)
    (case k8 => k_is)
    (case a9 => k_is)
    (case l9 => k_is)
    (case c9 => k_is)
    (case k9 => k_is)
    (case a10 => k_is)
    (case l10 => k_is)
    (case c10 => k_is)
    (case k10 => k_is)
    (case a11 => k_is)
    (case l11 => k_is)
    (case c11 => k_is)
    (case k11 => k_is)
    (case a12 => k_is)
    (case l12 => k_is)
    (case c12 => k_is)
    (case k12 => k_is)
    (case a13 => k_is)
    (case l13 => k_is)
    (case c13 => k_is)
    (case k13 => k_is)
    (case a14 => k_is)
    (case l14 => k_is)
    (case c14 => k_is)
    (case k14 => k_is)
    (case a15 => k_is)
    (case l15 => k_is)
    (case c15 => k_is)
    (case k15 => k_is)
    (case a16 => k_is)
    (case l16 => k_is)
    (case c16 => k_is)
    (case k16 => k_is)
    (case a17 => k_is)
    (case l17 => k_is)
    (case c17 => k_is)
    (case k17 => k_is)
    (case a18 => k_is)
    (case l18 => k_is)
    (case c18 => k_is)
    (case k18 => k_is)
    (case a19 => k_is)
    (case l19 => k_is)
    (case c19 => k_is)
    (case k19 => k_is)
    (case a20 => k_is)
    (case l20 => k_is)
    (case c20 => k_is)
    (case k20 => k_is)
    (case a21 => k_is)
    (case l21 => k_is)
    (case c21 => k_is)
    (case k21 => k_is)
    (case eaE0 => k_is)
    (case exE0 => k_is)
    (case esE0 => k_is)
    (case eiE0 => k_is)
    (case etE0 => k_is)
    (case lE0 => k_is)
    (case cE0 => k_is)
    (case kE0 => k_is)
    (case ekE0 => k_is)
    (case eeE0 => k_is)
    (case etyE0 => k_is)
    (case eicE0 => k_is)
    (case esuE0 => first | rfl | k_is)
    (case egaE0 => k_is)
    (case eggE0 => k_is)
    (case ehdE0 => k_is)
    (case enoE0 => k_is)
    (case eaE1 => k_is)
    (case exE1 => k_is)
    (case esE1 => k_is)
    (case eiE1 => k_is)
    (case etE1 => k_is)
    (case lE1 => k_is)
    (case cE1 => k_is)
    (case kE1 => k_is)
    (case ekE1 => k_is)
    (case eeE1 => k_is)
    (case etyE1 => k_is)
    (case eicE1 => k_is)
    (case esuE1 => first | rfl | k_is)
    (case egaE1 => k_is)
    (case eggE1 => k_is)
    (case ehdE1 => k_is)
    (case enoE1 => k_is)
    (case eaZ0 => k_is)
    (case exZ0 => k_is)
    (case esZ0 => k_is)
    (case eiZ0 => k_is)
    (case etZ0 => k_is)
    (case lZ0 => k_is)
    (case cZ0 => k_is)
    (case kZ0 => k_is)
    (case ekZ0 => k_is)
    (case eeZ0 => k_is)
    (case etyZ0 => k_is)
    (case eicZ0 => k_is)
    (case esuZ0 => first | rfl | k_is)
    (case z_len => k_is)
    (case z_abs => k_is)
    (case z_int => k_is)
    (case z_enumerate => k_is)
    (case z_range => k_is)
    (case z_isinstance => k_is)
    (case z_bool => k_is)
    (case z_max => k_is)
    (case z_min => k_is)
    (case z_repr => k_is)
    (case z_tuple => k_is)
    (case h1 => k_is)
    (case h2 => k_is)
    (case sS => k_is)
    (case sV => k_is)
    (case SPg => k_is)
    (case SHd => k_is)
    (case SPo => k_is)
    (case SSa => k_is)
    (case VPg => k_is)
    (case VHd => k_is)
    (case VPo => k_is)
    (case VSa => k_is)
    (case nSW => k_is)
    (case nST => k_is)
    (case nSU => k_is)
    (case nSC => k_is)
    (case nSB => k_is)
    (case nSL => k_is)
    (case nSH => k_is)
    (case nSS => k_is)
    (case nVC => k_is)
    (case nVB => k_is)
    (case vHa => k_is)
    (case vHn => k_is)
    (case vTk => k_is)
    (case vHm => k_is)
    (case vIc => k_is)
    (case vTy => k_is)
    (case vNf => k_is)
    (case vEq => k_is)
    (case vFe => k_is)
    (case vAd => k_is)
    (case vFa => k_is)
    (case vSf => k_is)
    (case mSMk => k_is)
    (case mSIn => k_is)
    (case mSFn => k_is)
    (case mSKp => k_is)
    (case mVMk => k_is)
    (case mVIn => k_is)
    (case mVFn => k_is)
    (case mVKp => k_is)
    (case vOn => k_is)
    (case vOf => k_is)
    (case rSRd => k_is)
    (case rSGa => k_is)
    (case rSAt => k_is)
    (case rSRc => k_is)
    (case rSFi => k_is)
    (case rVRd => k_is)
    (case rVGa => k_is)
    (case rVAt => k_is)
    (case rVRc => k_is)
    (case rVFi => k_is)
    (case lxI => k_is)
    (case cxI => k_is)
    (case kxI => k_is)
    (case dxI => k_is)
    (case lxO => k_is)
    (case cxO => k_is)
    (case kxO => k_is)
    (case dxO => k_is)
    (case lyI => k_is)
    (case cyI => k_is)
    (case kyI => k_is)
    (case lyN => k_is)
    (case cyN => k_is)
    (case kyN => k_is)
    (case lyV => k_is)
    (case cyV => k_is)
    (case kyV => k_is)
    (case lyA => k_is)
    (case cyA => k_is)
    (case kyA => k_is)
    (case lyE => k_is)
    (case cyE => k_is)
    (case kyE => k_is)
