import PyProof.Rows.All
import Wide.All
import OpenK.AllK
import Wide.FinOn
import HandS.ForMost
import HandS.ForExc
import HandS.Wide
import HandS.IsInst
import HandS.SlotsOwn
import HandS.ClsMeth
import HandS.MakeKw
import HandS.CallLocal
import HandS.ExcInit
import HandS.ExcField
import HandS.WideBits
import HandS.Style
import HandS.EndBits
import HandS.Walk
import HandS.Text
import PySem.Challenge.RW_usualdays_k06_sayings_and_their_days
set_option Elab.async false
set_option maxRecDepth 100000
set_option maxHeartbeats 4000000
namespace My
open PySem PySem.Spec PyProof.Rows L2
/-! ### defs that ask for repr: promised where no repr runs around them -/
structure FnG (P : Program) (w : World) (K : PySem.W.Frag) (mg : Str → Option Value) (base : Heap) (CX : CXT) (k : Nat) (f : Addr) (fd : FuncData) (ps : List Str) (sp : Sp) : Prop where
  many : ∀ vs H Q E, sp vs H Q E → vs.length = ps.length
  runs : ∀ (A : Around) (outer : List Env) (s : Shared) (H : Hp) (args : Args) (us : List Value) (vs : List V) (Q : VK) (E : XK), A.guards = some [] → Room k A →
    Env0 P w K mg base A outer s H → BindsTo s fd args (ps.zip us) → Vals vs us → sp vs H Q E → codeAny (model P w) A (.call (.ref f) args) (CR CX outer P w H s Q E) s
section
variable {P : Program} {w : World} {K : PySem.W.Frag} {mg : Str → Option Value} {base : Heap}
theorem FnG.of {CX : CXT} {k : Nat} {f : Addr} {fd : FuncData} {ps : List Str} {sp : Sp} (F : FnOk P w K mg base CX k f fd ps sp) : FnG P w K mg base CX k f fd ps sp :=
  ⟨F.len, fun A outer s H args us vs Q E _ => F.run A outer s H args us vs Q E⟩
/-- the rule for a def, its guards told -/
theorem Fun.okG {x qual : Str} {st : Stmt} {f : Addr} {fd : FuncData} {N ps : List Str} {k : Nat} {sp : Sp} (F : Fun K x qual st f fd) (S : FnScope N ps (defScope st)) (many : ∀ vs H Q E, sp vs H Q E → vs.length = ps.length)
    (body : ∀ (cdv : Value) (A : Around) (outer : List Env) (s : Shared) (H : Hp) (vs : List V) (Q : VK) (E : XK), A.guards = some [] → Room k (A.deeper (envOfC qual (defScope st) s.heap.objs.size f cdv)) → sp vs H Q E →
      ∃ t, PSs (cxOf CX0 P w K mg base N qual (defScope st) f cdv A outer s H E).nox (defBody st) t ∧ t { nx := fun _ H' => Q .non H', rt := Q } (start N vs) H) :
    FnG P w K mg base CX0 (k + 1) f fd ps sp := by
  obtain ⟨oc, od, kV, doc, pm, an, cdv, ct, osl, rfl, lk, hcd⟩ := F.ex
  refine ⟨many, fun A outer s H args us vs Q E hG hr env0 bnd vals hsp => ?_⟩
  have inK : K.In s.heap := env0.mod.kin.keeps (fun b o z => (env0.bs b o z).1)
  have noLim : s.heap.NoLimit := env0.mod.nolimit.keeps (fun b o z => (env0.bs b o z).1)
  obtain ⟨t, der0, goal⟩ := body cdv A outer s H vs Q E hG (hr.deeper _) hsp
  have der := der0.nox
  refine codeAny_call_function hr.depth (inK _ _ lk) rfl S.co S.gen rfl (PySem.W.codeRec_of inK hcd) (bnd _ _ _ _ ?_)
  refine wpAny_newFunctionEnv_cells S.kind ?_ (fun env he s1 made => ?_)
  · rintro ⟨n, v⟩ hy
    cases S.par n (List.of_mem_zip hy).1 with
    | inl q => exact .inl q
    | inr q => exact .inr ⟨q, PySem.W.cellsFrom_some _ _ _ (.inl q)⟩
  · subst he
    refine ⟨noLim.keeps made.toInCall.keep, codeAny_func ?_⟩
    have I0 := inv_start (CX := CX0) (P := P) (K := K) (mg := mg) (base := base) (E := E) S hr.hd env0 (many _ _ _ _ hsp) vals made
    refine wpAny_mono (der.run [] s1 _ H _ I0 goal) (fun fl s' res => ?_) (fun _ _ z => z)
    cases fl with
    | next =>
      obtain ⟨σ', H', J, q⟩ := res
      exact ⟨V.non, H', J.os, J.bare, J.base, J.hok, rfl, q⟩
    | brk => exact res.elim fun _ r => r.elim fun _ r => r.2.elim
    | cont => exact res.elim fun _ r => r.elim fun _ r => r.2.elim
    | ret u =>
      obtain ⟨v, σ', H', J, rv, q⟩ := res
      exact ⟨v, H', J.os, J.bare, J.base, J.hok, rv, q⟩
end
section
variable {X : Cx} {k : Nat} {f : Addr} {fd : FuncData} {ps : List Str} {sp : Sp} {x : Str} {p pos : Pos} {e : Expr} {es : List Expr} {t : TA}
/-- a call of such a def -/
theorem pe_callG (F : FnG X.prog X.w X.K X.mg X.base CX0 k f fd ps sp) (hG : X.A.guards = some []) (hr : Room k X.A) (hg : Gl X x) (hm : X.mg x = some (.ref f)) (hk : PySem.W.keepIn X.K (.ref f) = true) (hb : Binds X.K fd ps []) (ha : PA X (e :: es) t)
    (hdb : (x == ("__debug__" : Str)) = false := by decide) (he : starEach (e :: es) X.env = (false, eval e X.env) :: starEach es X.env := by rfl) (hpl : (backTo pos (starEach es X.env)).any (·.1) = false := by rfl) :
    PE X (.Call (.Name x p) (e :: es) [] pos) (tCall sp [] E0 t) := by
  refine ⟨fun pins s σ H Q I red => wpAny_Call_Name_kw (ld_glob I hg hm ?_ hdb)⟩
  refine PySem.W.callWith_K (h₀ := X.base) I.ok.mod.kin hk (thn (ha.run pos pins s σ H _ I red) ?_) he hpl
  rintro us s1 ⟨vs, H1, I1, r, q⟩
  rw [List.append_nil] at q
  have bnd := hb s1 us I1.kIn (by rw [List.append_nil, ← r.length]; exact F.many _ _ _ _ q)
  rw [List.append_nil] at bnd
  refine ⟨I1.kIn, wpAny_call (codeAny_mono (F.runs X.A X.stack s1 H1 ⟨us, []⟩ us vs Q E0 hG hr I1.env0 bnd r q) fun res s2 out => ?_)⟩
  cases res with
  | error er => exact out.elim
  | ok fl =>
    cases fl with
    | ret u => exact I1.after out
    | next => exact out.elim
    | brk => exact out.elim
    | cont => exact out.elim
/-- repr of data of any depth -/
def rReprD (K : PySem.W.Frag) : List V → Hp → VK → Prop := fun xs H Q => ∃ (a : Addr) (d : PyData), xs = [.ref a] ∧ Dp K H (.ref a) d ∧ PyData.layable0 d = true ∧ d.showable = true ∧ d.shown.length ≤ sizeLine ∧ Q (.str d.shown) H
theorem call_reprD (hG : X.A.guards = some []) (hu : X.A.units + 66 < cLine) : CallR X (.builtin "repr") (rReprD X.K) := by
  rintro pins s σ H xs us Q I r ⟨a, d, rfl, hd, hl, hs, hz, q⟩
  obtain ⟨u, rfl, ru⟩ := vals1 r
  obtain ⟨as, rd⟩ := Dp.reads I d _ u hd ru
  obtain rfl : u = Value.ref a := ru
  refine repr_of_reads' rd hs (PyData.noDict_hsm (PyData.hasDict_of_layable hl)) hG (by have := PyData.depth_le_of_layable hl; omega) (fun _ _ z => z) (fun h' t tk hk => ?_) hz
  exact ⟨.str d.shown, H, I.kept hk, ⟨_, rfl⟩, q⟩
end
end My
namespace My
open PySem PySem.Spec PyProof.Rows L2
/-- a heap that tracks at most the script, at a -/
structure Lone (P : Program) (w : World) (K : PySem.W.Frag) (H : Hp) (s : Shared) (a : Addr) : Prop where
  only : Only H
  ok : HOk P w H s.heap
  at_ : ∀ b, H b ≠ none → b = a
  away : H a ≠ none → K.lookup a = none
theorem lone_runs {P : Program} {w : World} {K : PySem.W.Frag} {mg mb : Str → Option Value} {k : Nat} {fa a : Addr} {fd : FuncData} {x : Str} {sp : Sp} {s : Shared} {vs : List Value} {H : Hp}
    (KX : K.In s.heap) (glob : s.heap.Ns mainGlobals mg) (blt : s.heap.Ns builtinsNs mb) (boot : ∀ y : Str, y ≠ "__name__" → mb y = bootBuiltins y) (lim : s.heap.NoLimit) (nogens : s.gens = #[])
    (ha : s.heap.get? a = some { cls := .type "list", data := .seq vs.toArray }) (hr : Room k callerA) (L : Lone P w K H s a)
    (F : ∀ base : Heap, K.In base → base.Ns mainGlobals mg → FnG P w K mg base CX0 k fa fd [x] sp) (bind : ∀ (s : Shared) (u : Value), BindsTo s fd ⟨[u], []⟩ [(x, u)]) (prom : sp [.ref a] H (fun v _ => v = .bl true) fun _ _ _ => False) :
    codeAny (model P w) callerA (.call (.ref fa) ⟨[.ref a], []⟩) (fun r s' => r = .ok (.ret (.bool true)) ∧ OldK s.heap s'.heap ∧ s'.os = s.os ∧ AllBare s'.gens) s := by
  have free : ∀ {b : Addr} {o : Obj}, s.heap.get? b = some o → (b = a → H b = none) → H b = none := fun {b o} e n => by
    by_cases hb : b = a
    · exact n hb
    · cases q : H b with
      | none => rfl
      | some u => exact absurd (L.at_ b (by rw [q]; exact nofun)) hb
  have dictFree : ∀ {b : Addr} {o : Obj} {es : Array DictEntry} {n : Nat}, s.heap.get? b = some o → o.data = .dict es n → H b = none := fun {b o es n} e d => free e fun hb => by
    rw [hb, ha] at e
    cases e
    exact nomatch d
  have ns : ∀ {b : Addr} {m : Str → Option Value}, s.heap.Ns b m → (hidT s.heap H).Ns b m := fun {b m} ⟨o, es, n, e, d, rest⟩ => ⟨o, es, n, hidT_get e (dictFree e d), d, rest⟩
  have inB : K.In (hidT s.heap H) := fun b o e => hidT_get (KX b o e) (free (KX b o e) fun hb => by
    cases q : H b with
    | none => rfl
    | some u =>
      rw [hb] at e q
      rw [L.away (by rw [q]; exact nofun)] at e
      cases e)
  obtain ⟨mc, l1, l2⟩ := lim
  have md : Mod K mg (hidT s.heap H) := ⟨inB, ns glob, ⟨mb, ns blt, boot⟩, ⟨mc, ns l1, l2⟩⟩
  have env0 : Env0 P w K mg (hidT s.heap H) callerA [] s H := { frames := rfl, mod := md, bs := fun b o e => of_hidT e, bsz := Nat.le_of_eq (hidT_size _ _), funs := trivial, frf := fun b z => (List.not_mem_nil (show b ∈ [] from z)).elim, hok := L.ok, bare := .of_eq nogens }
  refine codeAny_mono ((F _ inB (ns glob)).runs callerA [] s H ⟨[.ref a], []⟩ [.ref a] [.ref a] _ _ rfl hr env0 (bind s (.ref a)) (.cons rfl .nil) prom) fun res s' out => ?_
  cases res with
  | error er => exact out.elim
  | ok fl =>
    cases fl with
    | next => exact out.elim
    | brk => exact out.elim
    | cont => exact out.elim
    | ret u =>
      obtain ⟨v, H', os, bare, un, hok', rv, ev⟩ := out
      subst ev
      cases (show u = Value.bool true from rv)
      refine ⟨rfl, OldK.of_keep (fun b o e => ?_), os, bare⟩
      rcases L.only b with z | ⟨ob, xs, z⟩
      · exact un.keep b o e z (fun h => (List.not_mem_nil (show b ∈ [] from h)).elim) (fun h => (nomatch h))
      · obtain ⟨e1, _⟩ := L.ok b _ z
        obtain ⟨e2, _⟩ := hok' b _ (un.frzs b ob _ z)
        rw [e] at e1
        cases e1
        exact e2
theorem walk_ofG {l : PySem.W.OpenLaw} {k : Nat} {q : Program} {loose : List Str} {XP : (Str → Option Value) → Heap → Prop} {YP : World → Heap → Prop} {d : DefRec} {K : Params → PySem.W.Frag} {sp : PySem.W.Frag → Sp} {x : Str}
    (hn : l.most = some 63) (hdf : d.params.defaults = []) (hr : Room k callerA) (hY : ∀ (w : World) (h : Heap), YP w h → (K w.params).In h)
    (F : ∀ (w : World) (mg : Str → Option Value) (fa : Addr) (h : Heap), (K w.params).In h → h.Ns mainGlobals mg → mg d.name = some (.ref fa) →
      ∃ fd : FuncData, (∀ (s : Shared) (u : Value), BindsTo s fd ⟨[u], []⟩ [(x, u)]) ∧ ∀ base : Heap, (K w.params).In base → base.Ns mainGlobals mg → FnG l.prog w (K w.params) mg base CX0 k fa fd [x] (sp (K w.params)))
    (prom : ∀ (K : PySem.W.Frag) (H : Hp) (a : Addr) (ns : List Int), ns.length ≤ 63 → SqL K H a (ns.map V.int) → sp K [.ref a] H (fun v _ => v = .bl true) fun _ _ _ => False) :
    PySem.W.WalkO q loose XP YP l.row.toRowW d [] (fun f vs => PySem.call f vs) := by
  refine Att.attach_call hn hdf fun w s₀ s₁ mg mb fa o pm cd doc a vs ns G Y ho hd hcd hmg hobj hints hlen hg => ?_
  have KX := hY w _ Y
  obtain ⟨fd, bind, hF⟩ := F w mg fa _ KX G.T.g hmg
  have size : ns.length ≤ sizeLine := Nat.le_trans hlen (by decide)
  cases hk : (K w.params).lookup a with
  | none =>
    refine lone_runs (H := fun b => if b = a then some (.frz { cls := .type "list", data := .seq vs.toArray } (.lst (ns.map V.int))) else none) KX G.T.g G.T.b G.T.builtins G.T.nolimit hg hobj hr ⟨fun b => ?_, fun b u z => ?_, fun b z => ?_, fun _ => hk⟩ hF bind
      (prom _ _ _ ns hlen (.inl (.inr ⟨_, if_pos rfl⟩)))
    · by_cases hb : b = a
      · exact .inr ⟨_, _, if_pos hb⟩
      · exact .inl (if_neg hb)
    · by_cases hb : b = a
      · have y := (if_pos hb).symm.trans z
        cases y
        rw [hb]
        exact ⟨hobj, by rw [List.length_map]; exact size, vs, _, vals_ints hints, hobj⟩
      · have y := (if_neg hb).symm.trans z
        cases y
    · by_cases hb : b = a
      · exact hb
      · exact absurd (if_neg hb) z
  | some ob =>
    have e := KX a ob hk
    rw [hobj] at e
    cases e
    refine lone_runs (H := fun _ => none) KX G.T.g G.T.b G.T.builtins G.T.nolimit hg hobj hr ⟨fun _ => .inl rfl, fun b u z => (nomatch z), fun b z => absurd rfl z, fun z => absurd rfl z⟩ hF bind (prom _ _ _ ns hlen (.inr ⟨_, vs.toArray, _, hk, rfl, rfl, rfl, ?_, ?_⟩))
    · rw [List.size_toArray, hints.length]
      exact size
    · exact vals_ints hints
end My
set_option Elab.async false
set_option maxRecDepth 100000
set_option maxHeartbeats 4000000
namespace My
open PySem PySem.Spec PyProof.Rows L2 ClX
/-! ### own comparisons of instances with a dict; classes in slots; class methods with keywords -/
/-- the promise with E's exceptions left out -/
def rOwnD (K : PySem.W.Frag) (C : Addr) (sp : Sp) (E : XK) : R2 := fun x y H Q => ∃ a dx fs t, x = .ref a ∧ H a = some (.ins C dx fs) ∧ TyX K H y t ∧ PySem.W.notFirst K C t = true ∧ sp [x, y] H Q E
section
variable {X : Cx} {CX : CXT} {C g : Addr} {n : Nat} {sp : Sp} {E : XK}
theorem op_ownD {op : CmpOp} (hop : ∀ a b, compareOp op a b = richCompare op a b) (hs : PySem.W.findIn X.K (.ref C) (cmpInfo op).2.1 = some (some (.ref g))) (hf : PySem.W.isFn X.K (.ref g) = true) (F : FnR X.prog X.w X.K X.mg X.base CX n g sp)
    (hr : Room n X.A) (hx : Passes CX X E) : OpR X (compareOp op) (rOwnD X.K C sp E) := by
  intro pins s σ H x y v u Q I rx ry h
  obtain ⟨a, dx, fs, t, rfl, ha, ty, hn, q⟩ := h
  cases (show v = Value.ref a from rx)
  obtain ⟨mA, J, _⟩ := ins_get I.hok ha
  obtain ⟨od, J, _⟩ := J.look
  obtain ⟨P, kt, pt, _⟩ := kit_of I ry ty
  obtain ⟨m, hF⟩ := I.fr
  rw [hop]
  refine PySem.W.cmp_K (op := op) (tb := t) hr.units0 hF I.ok.mod.kin J (kt.ty _ _ I.kIn pt) hn hs hf ?_
  refine wpAny_mono (wpAny_call (run_fnR (us := [.ref a, u]) (vs := [.ref a, y]) F hr hx I (.cons rfl (.cons ry .nil)) q)) (fun w s' z => ?_) fun _ _ x => x
  obtain ⟨z', H', I', rz, qz⟩ := z
  exact SlX.cmpback rz ⟨z', H', I', rz, qz⟩
end
/-- x(..), x a slot that holds the class at C -/
def tMakeL (i : Nat) (C : Addr) (sp : Sp) (dvs : List V) (E : XK) (t : TA) : TE := fun σ H Q => σ[i]? = some (some (.ref C)) ∧ tMake C sp dvs E t σ H Q
/-- .. as tMake, where what is raised is wished for at the caller's slots -/
def tMakeS (C : Addr) (sp : Sp) (dvs : List V) (E : L2.St → XK) (t : TA) : TE := fun σ H Q => tMake C sp dvs (E σ) t σ H Q
def tCMethS (C : Addr) (sp : Sp) (E : L2.St → XK) (ta : TE) (t : TA) : TE := fun σ H Q => tCMeth C sp (E σ) ta t σ H Q
def tMethS (C : Addr) (m : Str) (sp : Sp) (E : L2.St → XK) (ta : TE) (t : TA) : TE := fun σ H Q => ta σ H fun x H1 => ∃ a dx fs, x = .ref a ∧ H1 a = some (.ins C dx fs) ∧ fs.lookup m = none ∧ t σ H1 fun vs H2 => sp (x :: vs) H2 Q (E σ)
/-- C.m(.., k = v) -/
def tCMethN (C : Addr) (n m : Nat) (sp : Sp) (gV : List V → List V → List V) (E : XK) (ta : TE) (t tk : TA) : TE := fun σ H Q => ta σ H fun x H1 => x = .ref C ∧ t σ H1 fun vs H2 => tk σ H2 fun zs H3 => vs.length = n ∧ zs.length = m ∧ sp (gV (.ref C :: vs) zs) H3 Q E
section
variable {X : Cx} {CX : CXT} {k i n : Nat} {f C p g : Addr} {fd : FuncData} {ps ks : List Str} {sp : Sp} {dvs : List V} {ds : List Value} {E : XK} {ES : L2.St → XK} {x m : Str} {pp pos apos : Pos} {e o : Expr} {es : List Expr} {kws : List Keyword} {t tk : TA} {ta : TE} {mc : Value} {pl : Sem Bool}
  {gg : List Value → List Value → List Value} {gV : List V → List V → List V}
theorem pe_makeL (M : Mk X.K C f) (F : FnOk X.prog X.w X.K X.mg X.base CX k f fd ps sp) (hr : Room (k + 1) X.A) (hN : X.N[i]? = some x) (hv : Vis X.env.scope x) (hb : Binds X.K fd ps ds) (hd : Vals dvs ds) (hx : Passes CX X E) (ha : PA X (e :: es) t)
    (hdb : (x == ("__debug__" : Str)) = false := by decide) (hcd : (x == ("__classdict__" : Str)) = false := by decide)
    (he : starEach (e :: es) X.env = (false, eval e X.env) :: starEach es X.env := by rfl) (hpl : (backTo pos (starEach es X.env)).any (·.1) = false := by rfl) : PE X (.Call (.Name x pp) (e :: es) [] pos) (tMakeL i C sp dvs E t) := by
  refine ⟨fun pins s σ H Q I h => ?_⟩
  obtain ⟨hs, ht⟩ := h
  refine wpAny_Call_Name_kw (thn ((pe_var (pos := pp) hN hv hdb hcd).run pins s σ H (fun v H1 => v = .ref C ∧ H1 = H) I ⟨.ref C, hs, rfl, rfl⟩) fun u s1 ⟨v, H1, I1, r1, q1⟩ => ?_)
  obtain ⟨rfl, rfl⟩ := q1
  cases r1
  refine PySem.W.callWith_K (h₀ := X.base) I.ok.mod.kin M.kp (thn (ha.run pos pins s1 σ _ _ I1 ht) fun us s2 ⟨vs, H2, I2, r, q⟩ => ⟨I2.kIn, ?_⟩) he hpl
  exact run_make M F hr hb hd hx I2 r q
theorem run_makeS {pins : List (Addr × Obj)} {σ : L2.St} {H : Hp} {s : Shared} {Q : VK} {us : List Value} {vs : List V} (M : Mk X.K C f) (F : FnOk X.prog X.w X.K X.mg X.base CX k f fd ps sp) (hr : Room (k + 1) X.A) (hb : Binds X.K fd ps ds) (hd : Vals dvs ds)
    (hx : PassesAt CX X σ E) (I : Inv X pins σ H s) (r : Vals vs us)
    (h : ∀ x dx, H x = none → H dx = none → dx ≠ x → sp (.ref x :: (vs ++ dvs)) (upd (upd H dx (.own x)) x (.ins C dx [])) (fun v H2 => v = .non ∧ Q (.ref x) H2) E) :
    wpAny (model X.prog X.w) X.A (call (.ref C) us) (EP X pins σ Q) X.xe s := by
  have hq := h (s.heap.objs.size + 1) s.heap.objs.size (I.hok.fresh (Nat.le_succ _)) (I.hok.fresh (Nat.le_refl _)) (Nat.ne_of_lt (Nat.lt_succ_self _))
  have I2 := Inv.made (C := C) I
  have r2 : Vals (V.ref (s.heap.objs.size + 1) :: (vs ++ dvs)) (Value.ref (s.heap.objs.size + 1) :: (us ++ ds)) := .cons rfl (r.append hd)
  have hl : (Value.ref (s.heap.objs.size + 1) :: us ++ ds).length = ps.length := by
    have e := r2.length
    rw [F.len _ _ _ _ hq] at e
    exact e.symm
  refine wpAny_call (make_map (f := f) I.kIn M.makes M.init (beq_iff_eq.mp M.fn) (codeAny_mono (F.run _ X.stack _ _ ⟨Value.ref (s.heap.objs.size + 1) :: us, []⟩ (Value.ref (s.heap.objs.size + 1) :: (us ++ ds)) _ _ E (hr.make C us [])
    (I2.env0.make C us []) (hb _ (Value.ref (s.heap.objs.size + 1) :: us) I2.kIn hl) r2 hq) fun r s' hq' => ?_))
  cases r with
  | error e => exact hx pins _ _ e s' I2 hq'
  | ok fl =>
    cases fl with
    | ret u =>
      obtain ⟨v, H', I3, rv, ev, q3⟩ := I2.after hq'
      subst ev
      exact ⟨rv, ⟨V.ref (s.heap.objs.size + 1), H', I3, rfl, q3⟩⟩
    | next => exact False.elim hq'
    | brk => exact False.elim hq'
    | cont => exact False.elim hq'
theorem pe_makeS (M : Mk X.K C f) (F : FnOk X.prog X.w X.K X.mg X.base CX k f fd ps sp) (hr : Room (k + 1) X.A) (hg : Gl X x) (hm : X.mg x = some (.ref C)) (hb : Binds X.K fd ps ds) (hd : Vals dvs ds) (hx : ∀ σ, PassesAt CX X σ (ES σ))
    (ha : PA X (e :: es) t) (hdb : (x == ("__debug__" : Str)) = false := by decide) (he : starEach (e :: es) X.env = (false, eval e X.env) :: starEach es X.env := by rfl) (hpl : (backTo pos (starEach es X.env)).any (·.1) = false := by rfl) :
    PE X (.Call (.Name x pp) (e :: es) [] pos) (tMakeS C sp dvs ES t) := by
  refine ⟨fun pins s σ H Q I h => ?_⟩
  refine wpAny_Call_Name_kw (ld_glob I hg hm ?_ hdb)
  refine PySem.W.callWith_K (h₀ := X.base) I.ok.mod.kin M.kp (thn (ha.run pos pins s σ H _ I h) fun us s1 ⟨vs, H1, I1, r, q⟩ => ⟨I1.kIn, ?_⟩) he hpl
  exact run_makeS M F hr hb hd (hx σ) I1 r q
theorem run_fnRS {pins : List (Addr × Obj)} {σ : L2.St} {H : Hp} {s : Shared} {Q : VK} {us : List Value} {vs : List V} (F : FnR X.prog X.w X.K X.mg X.base CX k f sp) (hr : Room k X.A) (hx : PassesAt CX X σ E) (I : Inv X pins σ H s) (r : Vals vs us) (h : sp vs H Q E) :
    codeAny (model X.prog X.w) X.A (.call (.ref f) ⟨us, []⟩) (fun r s' => match r with | .ok (.ret v) => EP X pins σ Q v s' | .ok _ => False | .error e => X.xe e s') s := by
  refine codeAny_mono (F X.A X.stack s H us vs Q E hr I.env0 r h) fun r s' hq => ?_
  cases r with
  | error e => exact hx pins H s e s' I hq
  | ok fl =>
    cases fl with
    | ret u => exact I.after hq
    | next => exact False.elim hq
    | brk => exact False.elim hq
    | cont => exact False.elim hq
theorem pe_cmethS (he : PE X o ta) (r : CRead X.K C mc) (c : CMet X.K C mc m p g) (F : FnR X.prog X.w X.K X.mg X.base CX k g sp) (hr : Room k X.A) (hx : ∀ σ, PassesAt CX X σ (ES σ)) (ha : PA X (e :: es) t)
    (hst : starEach (e :: es) X.env = (false, eval e X.env) :: starEach es X.env := by rfl) (hpl : (backTo pos (starEach es X.env)).any (·.1) = false := by rfl)
    (ht : eval (.Call (.Attribute o m apos) (e :: es) [] pos) X.env = (do
      let ov ← eval o X.env
      standAt apos.atName
      let (f, first) ← holding [ov] (getMethod ov m pl)
      callWith pos f first (backTo pos (starEach (e :: es) X.env)) (backToKw pos (keywordEach [] X.env))) := by rfl) :
    PE X (.Call (.Attribute o m apos) (e :: es) [] pos) (tCMethS C sp ES ta t) := by
  refine ⟨fun pins s σ H Q I h => ?_⟩
  refine PySem.W.methodCall_KW (pl := pl) (thn (he.run pins s σ H _ I h) fun u s1 ⟨x, H1, I1, rx, ex, q⟩ => ?_) ht
  subst ex
  obtain rfl : u = Value.ref C := rx
  refine getmethcm_ok I1 r c fun s2 I2 => ?_
  refine callwith_cm I2 (base_none I1 (Nat.le_refl _)) c.fi (thn (ha.run pos _ s2 σ H1 _ I2 q) fun us s3 ⟨vs, H2, I3, rv, q2⟩ => ⟨⟨pin_at I3, I3.kIn⟩, ?_⟩) hst hpl
  have z : wpAny (model X.prog X.w) X.A (call (.ref s1.heap.objs.size) us) (EP X _ σ Q) X.xe s3 := wpAny_call (PySem.W.method_call (pin_at I3) (run_fnRS (us := .ref C :: us) (vs := .ref C :: vs) F hr (hx σ) I3 (.cons rfl rv) q2))
  exact thn z fun _ _ y => unpinE y
theorem pe_cmethN (he : PE X o ta) (r : CRead X.K C mc) (c : CMet X.K C mc m p g) (F : FnOk X.prog X.w X.K X.mg X.base CX k g fd ps sp) (hr : Room k X.A) (hb : KBn X.K fd ps (n + 1) ks gg gV) (hx : Passes CX X E) (ha : PA X (e :: es) t) (hkw : PK X kws tk)
    (hall : (backToKw pos (keywordEach kws X.env)).all (·.1.isSome) = true := by rfl) (hks : (backToKw pos (keywordEach kws X.env)).filterMap (·.1) = ks := by rfl)
    (hst : starEach (e :: es) X.env = (false, eval e X.env) :: starEach es X.env := by rfl)
    (hpl : ((backTo pos (starEach (e :: es) X.env)).any (·.1) || (backToKw pos (keywordEach kws X.env)).any (·.1.isNone)) = false := by rfl)
    (ht : eval (.Call (.Attribute o m apos) (e :: es) kws pos) X.env = (do
      let ov ← eval o X.env
      standAt apos.atName
      let (f, first) ← holding [ov] (getMethod ov m pl)
      callWith pos f first (backTo pos (starEach (e :: es) X.env)) (backToKw pos (keywordEach kws X.env))) := by rfl) :
    PE X (.Call (.Attribute o m apos) (e :: es) kws pos) (tCMethN C n ks.length sp gV E ta t tk) := by
  refine ⟨fun pins s σ H Q I h => ?_⟩
  refine PySem.W.methodCall_KW (pl := pl) (thn (he.run pins s σ H _ I h) fun u s1 ⟨x, H1, I1, rx, ex, q⟩ => ?_) ht
  subst ex
  obtain rfl : u = Value.ref C := rx
  refine getmethcm_ok I1 r c fun s2 I2 => ?_
  refine PySem.W.callWith_of hpl (PySem.W.keeps_M (K := X.K) (self := .ref C) c.fi) ?_
  refine evalArgs_kw2 hall ?_ hst
  refine thn (ha.run pos _ s2 σ H1 _ I2 q) fun us s3 ⟨vs, H2, I3, rv, q2⟩ => ?_
  refine thn (hkw.run pos _ s3 σ H2 _ I3 q2) fun ws s4 ⟨zs, H3, I4, rz, l1, l2, q3⟩ => ⟨⟨pin_at I4, I4.kIn⟩, ?_⟩
  rw [hks]
  have r2 := hb.rel (vs := .ref C :: vs) (us := .ref C :: us) (.cons rfl rv) rz
  have e1 : (Value.ref C :: us).length = n + 1 := by rw [List.length_cons, ← rv.length, l1]
  have e2 : ws.length = ks.length := rz.length.symm.trans l2
  have z : wpAny (model X.prog X.w) X.A (call (.ref s1.heap.objs.size) us (ks.zip ws)) (EP X _ σ Q) X.xe s4 := wpAny_call (PySem.W.method_call (kw := ks.zip ws) (pin_at I4)
    (codeAny_mono (F.run X.A X.stack s4 H3 ⟨.ref C :: us, ks.zip ws⟩ (gg (.ref C :: us) ws) (gV (.ref C :: vs) zs) Q E hr I4.env0 (hb.to s4 (.ref C :: us) ws I4.kIn e1 e2) r2 q3) fun r s' hq => by
      cases r with
      | error e => exact hx _ σ H3 s4 e s' I4 hq
      | ok fl =>
        cases fl with
        | ret u => exact I4.after hq
        | next => exact False.elim hq
        | brk => exact False.elim hq
        | cont => exact False.elim hq))
  exact thn z fun _ _ y => unpinE y
/-- o.m(..), where what is raised is wished for at the caller's slots -/
theorem pe_methS (he : PE X o ta) (c : Cls X.K C) (hm : Meth X.K C m f) (F : FnOk X.prog X.w X.K X.mg X.base CX k f fd ps sp) (hr : Room k X.A) (hb : Binds X.K fd ps []) (hx : ∀ σ, PassesAt CX X σ (ES σ)) (ha : PA X (e :: es) t)
    (hst : starEach (e :: es) X.env = (false, eval e X.env) :: starEach es X.env := by rfl) (hpl : (backTo pos (starEach es X.env)).any (·.1) = false := by rfl)
    (ht : eval (.Call (.Attribute o m apos) (e :: es) [] pos) X.env = (do
      let ov ← eval o X.env
      standAt apos.atName
      let (f, first) ← holding [ov] (getMethod ov m pl)
      callWith pos f first (backTo pos (starEach (e :: es) X.env)) (backToKw pos (keywordEach [] X.env))) := by rfl) :
    PE X (.Call (.Attribute o m apos) (e :: es) [] pos) (tMethS C m sp ES ta t) := by
  refine ⟨fun pins s σ H Q I h => ?_⟩
  refine PySem.W.methodCall_KW (pl := pl) (thn (he.run pins s σ H _ I h) fun u s1 ⟨x, H1, I1, rx, a, dx, fs, ex, ea, l, q⟩ => ?_) ht
  subst ex
  obtain rfl : u = Value.ref a := rx
  refine getmeth_ok I1 ea c hm l ?_
  refine PySem.W.callWith_K (first := [.ref a]) (h₀ := X.base) I.ok.mod.kin hm.kp (thn (ha.run pos pins s1 σ H1 _ I1 q) fun us s2 ⟨vs, H2, I2, r, q2⟩ => ⟨I2.kIn, ?_⟩) hst hpl
  exact run_fnS (us := .ref a :: us) (vs := .ref a :: vs) F hr hb (hx σ) I2 (.cons rfl r) q2
end
end My
set_option Elab.async false
set_option maxRecDepth 100000
set_option maxHeartbeats 4000000
namespace My
open PySem PySem.Spec PyProof.Rows L2
/-! ### own error classes with one field -/
/-- __init__(self, f): self.f = f -/
def sp_efld (C : Addr) (f : Str) : Sp := fun vs H Q _ => ∃ (a : Addr) (y : V), vs = [.ref a, y] ∧ H a = some (exo a C none) ∧ ∀ dx, H dx = none → dx ≠ a → Q .non (upd (upd H dx (exd dx [(f, y)])) a (exo a C (some dx)))
structure ErrF (K : PySem.W.Frag) (mg : Str → Option Value) (x f : Str) (C fI : Addr) (fd : FuncData) : Prop where
  g : mg x = some (.ref C)
  oex : OexC K C
  iC : PySem.W.findIn K (.ref C) "__init__" = some (some (.ref fI))
  tI : PySem.W.typeIn K (.ref fI) = some (.type "function")
  b : Binds K fd ["self", f] []
  te : PySem.W.exmOne K (.ref C) (.ref C) = some true
  xf : XfC K C
  no : PySem.W.findIn K (.ref C) f = some none
section
variable {X : Cx} {x f : Str} {p pos : Pos} {e : Expr} {te : TE}
theorem pe_wk (h : PE X e te) : PE X e (fun σ H Q => ∃ R : VK, te σ H R ∧ ∀ v H', R v H' → Q v H') := by
  refine ⟨fun pins s σ H Q I z => ?_⟩
  obtain ⟨R, z1, z2⟩ := z
  refine thn (h.run pins s σ H R I z1) fun u s' y => ?_
  obtain ⟨v, H', I', r, q⟩ := y
  exact ⟨v, H', I', r, z2 _ _ q⟩
theorem pmk_fld {C fI : Addr} {k : Nat} {fd : FuncData} {ps : List Str} (T : OexC X.K C) (iC : PySem.W.findIn X.K (.ref C) "__init__" = some (some (.ref fI))) (tI : PySem.W.typeIn X.K (.ref fI) = some (.type "function"))
    (F1 : FnOk X.prog X.w X.K X.mg X.base CX0 k fI fd ps (sp_efld C f)) (hr : Room (k + 1) X.A) (hb : Binds X.K fd ps []) (hg : Gl X x) (hm : X.mg x = some (.ref C)) (he : PE X e te) (hdb : (x == ("__debug__" : Str)) = false := by decide)
    (hst : starEach [e] X.env = (false, eval e X.env) :: starEach [] X.env := by rfl) :
    PMk X (.Call (.Name x p) [e] [] pos) (fun σ H Q => te σ H fun y H1 => ∀ d H', H1 d = none → Same H1 H' → H' d = some (.xd [(f, y)]) → Q (.ref C) (some d) H') := by
  intro pins s σ H Q I h
  refine pmk_oex (dvs := []) T iC tI F1 hr hb .nil (fun _ _ _ _ _ _ _ z => z.elim) hg hm (pa_cons (pe_wk he) pa_nil hst) hdb hst rfl pins s σ H Q I ?_
  refine ⟨_, h, fun y H1 z => ⟨by show (1 : Nat) ≤ 1000; decide, fun a ha => ⟨a, y, rfl, upd_same, fun dx hdx hda => ⟨rfl, dx, [(f, y)], upd_same, ?_, ?_, ?_⟩⟩⟩⟩
  · rw [upd_ne hda, upd_same]
  · rw [upd_ne hda] at hdx
    exact hdx
  · rw [upd_ne hda] at hdx
    refine z dx _ hdx (fun b o hb => ?_) upd_same
    have n1 : b ≠ dx := ne_of_none hb hdx
    have n2 : b ≠ a := ne_of_none hb ha
    rw [upd_ne n1, del_ne n2, upd_ne n2, upd_ne n1, upd_ne n2]
    exact hb
/-- what a callee raises, handed on -/
theorem pass_of {E : XK} (tk : Takes X (fun cls d _ H => E cls d H)) : Passes (L2.CX X.prog X.w) X E := fun _ _ _ _ e s' I c => tk e s' (XE.of_call I (fun _ _ _ h => h) c)
end
end My
set_option Elab.async false
set_option maxRecDepth 100000
set_option maxHeartbeats 4000000
namespace My
open PySem L2
/-! ### lists of ints and of bools as data -/
theorem lay_ints : ∀ ns : List Int, PyData.canLayAll0 (ns.map PyData.int) = true ∧ PyData.depthAll (ns.map PyData.int) = 0
  | [] => by simp [PyData.canLayAll0, PyData.depthAll]
  | n :: r => by
    have h := lay_ints r
    simp [PyData.canLayAll0, PyData.depthAll, PyData.canLay0, PyData.depth, h.1, h.2]
theorem lay_bls : ∀ ns : List Bool, PyData.canLayAll0 (ns.map PyData.bool) = true ∧ PyData.depthAll (ns.map PyData.bool) = 0
  | [] => by simp [PyData.canLayAll0, PyData.depthAll]
  | n :: r => by
    have h := lay_bls r
    simp [PyData.canLayAll0, PyData.depthAll, PyData.canLay0, PyData.depth, h.1, h.2]
theorem shaped_ints (ns : List Int) : SeqAt.shaped (.list (ns.map .int)) = true := by
  have h := lay_ints ns
  simp [SeqAt.shaped, PyData.canLay0, PyData.depth, h.1, h.2]
theorem shaped_intsT (ns : List Int) : SeqAt.shaped (.tuple (ns.map .int)) = true := by
  have h := lay_ints ns
  simp [SeqAt.shaped, PyData.canLay0, PyData.depth, h.1, h.2]
theorem shaped_bls (ns : List Bool) : SeqAt.shaped (.list (ns.map .bool)) = true := by
  have h := lay_bls ns
  simp [SeqAt.shaped, PyData.canLay0, PyData.depth, h.1, h.2]
theorem eqv_ints : ∀ ns ms : List Int, PyData.eqvAll (ns.map .int) (ms.map .int) = decide (ns = ms)
  | [], [] => by simp [PyData.eqvAll]
  | [], _ :: _ => by simp [PyData.eqvAll]
  | _ :: _, [] => by simp [PyData.eqvAll]
  | n :: r, m :: t => by
    have h := eqv_ints r t
    simp only [List.map_cons, PyData.eqvAll, PyData.eqv, h, List.cons.injEq, Bool.decide_and]
    congr 1
theorem eqv_bls : ∀ ns ms : List Bool, PyData.eqvAll (ns.map .bool) (ms.map .bool) = decide (ns = ms)
  | [], [] => by simp [PyData.eqvAll]
  | [], _ :: _ => by simp [PyData.eqvAll]
  | _ :: _, [] => by simp [PyData.eqvAll]
  | n :: r, m :: t => by
    have h := eqv_bls r t
    simp only [List.map_cons, PyData.eqvAll, PyData.eqv, h, List.cons.injEq, Bool.decide_and]
    congr 1
theorem dp_ints {K : PySem.W.Frag} {H : Hp} : ∀ ns : List Int, DpAll K H (ns.map V.int) (ns.map .int)
  | [] => .nil
  | n :: r => .cons (.int n) (dp_ints r)
theorem dp_bls {K : PySem.W.Frag} {H : Hp} : ∀ ns : List Bool, DpAll K H (ns.map V.bl) (ns.map .bool)
  | [] => .nil
  | n :: r => .cons (.bl n) (dp_bls r)
/-- == of two lists of ints | bools, of two tuples of ints -/
theorem eq_ints {K : PySem.W.Frag} {H : Hp} {Q : VK} {a b : Addr} {ns ms : List Int} (ha : SqL K H a (ns.map V.int)) (hb : SqL K H b (ms.map V.int)) (q : Q (.bl (decide (ns = ms))) H) : rEqD K (.ref a) (.ref b) H Q :=
  ⟨_, _, .lst ha (dp_ints ns), .lst hb (dp_ints ms), shaped_ints _, shaped_ints _, by rw [show PyData.eqv (.list (ns.map .int)) (.list (ms.map .int)) = decide (ns = ms) from by rw [← eqv_ints]; simp [PyData.eqv]]; exact q⟩
theorem ne_ints {K : PySem.W.Frag} {H : Hp} {Q : VK} {a b : Addr} {ns ms : List Int} (ha : SqL K H a (ns.map V.int)) (hb : SqL K H b (ms.map V.int)) (q : Q (.bl (!decide (ns = ms))) H) : rNeD K (.ref a) (.ref b) H Q :=
  ⟨_, _, .lst ha (dp_ints ns), .lst hb (dp_ints ms), shaped_ints _, shaped_ints _, by rw [show PyData.eqv (.list (ns.map .int)) (.list (ms.map .int)) = decide (ns = ms) from by rw [← eqv_ints]; simp [PyData.eqv]]; exact q⟩
theorem ne_intsT {K : PySem.W.Frag} {H : Hp} {Q : VK} {a b : Addr} {ns ms : List Int} (ha : SqT K H a (ns.map V.int)) (hb : SqT K H b (ms.map V.int)) (q : Q (.bl (!decide (ns = ms))) H) : rNeD K (.ref a) (.ref b) H Q :=
  ⟨_, _, .tup ha (dp_ints ns), .tup hb (dp_ints ms), shaped_intsT _, shaped_intsT _, by rw [show PyData.eqv (.tuple (ns.map .int)) (.tuple (ms.map .int)) = decide (ns = ms) from by rw [← eqv_ints]; simp [PyData.eqv]]; exact q⟩
theorem eq_bls {K : PySem.W.Frag} {H : Hp} {Q : VK} {a b : Addr} {ns ms : List Bool} (ha : SqL K H a (ns.map V.bl)) (hb : SqL K H b (ms.map V.bl)) (q : Q (.bl (decide (ns = ms))) H) : rEqD K (.ref a) (.ref b) H Q :=
  ⟨_, _, .lst ha (dp_bls ns), .lst hb (dp_bls ms), shaped_bls _, shaped_bls _, by rw [show PyData.eqv (.list (ns.map .bool)) (.list (ms.map .bool)) = decide (ns = ms) from by rw [← eqv_bls]; simp [PyData.eqv]]; exact q⟩
theorem ne_bls {K : PySem.W.Frag} {H : Hp} {Q : VK} {a b : Addr} {ns ms : List Bool} (ha : SqL K H a (ns.map V.bl)) (hb : SqL K H b (ms.map V.bl)) (q : Q (.bl (!decide (ns = ms))) H) : rNeD K (.ref a) (.ref b) H Q :=
  ⟨_, _, .lst ha (dp_bls ns), .lst hb (dp_bls ms), shaped_bls _, shaped_bls _, by rw [show PyData.eqv (.list (ns.map .bool)) (.list (ms.map .bool)) = decide (ns = ms) from by rw [← eqv_bls]; simp [PyData.eqv]]; exact q⟩

/-! ### day sets as naturals -/
def nInt (ds : List Nat) : List Int := ds.map fun d : Nat => (d : Int)
/-- the set with these days -/
def setOf (ds : List Nat) : Nat := ds.foldl (fun s d => s ||| 2 ^ d) 0
theorem bit_pow (d i : Nat) : (2 ^ d).testBit i = decide (d = i) := Nat.testBit_two_pow
theorem setOf_go (ds : List Nat) (s i : Nat) : (ds.foldl (fun s d => s ||| 2 ^ d) s).testBit i = (s.testBit i || decide (i ∈ ds)) := by
  induction ds generalizing s with
  | nil => simp
  | cons d r ih =>
    rw [List.foldl_cons, ih, Nat.testBit_or, bit_pow]
    by_cases h : d = i
    · subst h; simp
    · have h2 : ¬ i = d := fun e => h e.symm
      simp [h, h2]
theorem setOf_bit (ds : List Nat) (i : Nat) : (setOf ds).testBit i = decide (i ∈ ds) := by
  unfold setOf
  rw [setOf_go]
  simp
theorem setOf_ext {ds es : List Nat} (h : ∀ i, i ∈ ds ↔ i ∈ es) : setOf ds = setOf es := by
  refine Nat.eq_of_testBit_eq fun i => ?_
  rw [setOf_bit, setOf_bit]
  simp [h i]
/-- a bit that is not there, added -/
theorem add_bit {s d : Nat} (h : s.testBit d = false) : s + 2 ^ d = s ||| 2 ^ d := by
  have e := Nat.div_add_mod s (2 ^ (d + 1))
  have hr : s % 2 ^ (d + 1) < 2 ^ d := by
    have h1 := Nat.testBit_eq_decide_div_mod_eq (x := s) (i := d)
    rw [h] at h1
    have h2 : ¬ (s / 2 ^ d % 2 = 1) := by simpa using h1.symm
    have h3 : s % 2 ^ (d + 1) = s % 2 ^ d + 2 ^ d * (s / 2 ^ d % 2) := by rw [Nat.pow_succ, Nat.mod_mul]
    have h4 : s / 2 ^ d % 2 = 0 := by omega
    rw [h3, h4]
    have := Nat.mod_lt s (Nat.two_pow_pos d)
    omega
  have h5 : 2 ^ d + s % 2 ^ (d + 1) = 2 ^ d ||| s % 2 ^ (d + 1) := by
    have := Nat.two_pow_add_eq_or_of_lt hr 1
    simpa using this
  have h6 : 2 ^ d + s % 2 ^ (d + 1) < 2 ^ (d + 1) := by have e2 := Nat.pow_succ (n := 2) (m := d); omega
  have h7 := Nat.two_pow_add_eq_or_of_lt h6 (s / 2 ^ (d + 1))
  have h8 := Nat.two_pow_add_eq_or_of_lt (Nat.lt_trans hr (Nat.pow_lt_pow_right (by decide) (Nat.lt_succ_self d))) (s / 2 ^ (d + 1))
  calc s + 2 ^ d = 2 ^ (d + 1) * (s / 2 ^ (d + 1)) + (2 ^ d + s % 2 ^ (d + 1)) := by omega
    _ = 2 ^ (d + 1) * (s / 2 ^ (d + 1)) ||| (2 ^ d ||| s % 2 ^ (d + 1)) := by rw [h7, h5]
    _ = (2 ^ (d + 1) * (s / 2 ^ (d + 1)) ||| s % 2 ^ (d + 1)) ||| 2 ^ d := by rw [Nat.or_comm (2 ^ d), Nat.or_assoc]
    _ = s ||| 2 ^ d := by rw [← h8, e]
theorem sum_go (ds : List Nat) (s : Nat) (hn : ds.Nodup) (hs : ∀ d ∈ ds, s.testBit d = false) : s + (ds.map fun d => 2 ^ d).sum = ds.foldl (fun s d => s ||| 2 ^ d) s := by
  induction ds generalizing s with
  | nil => simp
  | cons d r ih =>
    rw [List.nodup_cons] at hn
    rw [List.map_cons, List.sum_cons, List.foldl_cons, ← ih _ hn.2, ← Nat.add_assoc, add_bit (hs d List.mem_cons_self)]
    intro i hi
    have hd : d ≠ i := fun e => hn.1 (e ▸ hi)
    rw [Nat.testBit_or, bit_pow, hs i (List.mem_cons_of_mem _ hi)]
    simp [hd]
theorem sum_setOf {ds : List Nat} (hn : ds.Nodup) : (ds.map fun d => 2 ^ d).sum = setOf ds := by
  have := sum_go ds 0 hn (fun d _ => Nat.zero_testBit d)
  unfold setOf
  omega
/-- the days in a set below 2 ^ 16 -/
def daysOf (n : Nat) : List Nat := (List.range 16).filter fun d => n.testBit d
theorem mem_daysOf {n d : Nat} : d ∈ daysOf n ↔ d < 16 ∧ n.testBit d = true := by
  unfold daysOf
  rw [List.mem_filter, List.mem_range]
theorem daysOf_more {n m : Nat} (h : n < 2 ^ m) (hm : m ≤ 16) : (List.range m).filter (fun d => n.testBit d) = daysOf n := by
  obtain ⟨k, hk⟩ := Nat.exists_eq_add_of_le hm
  unfold daysOf
  rw [hk, List.range_add, List.filter_append]
  have e : (List.map (fun x => m + x) (List.range k)).filter (fun d => n.testBit d) = [] := by
    rw [List.filter_eq_nil_iff]
    intro a ha
    obtain ⟨j, _, rfl⟩ := List.mem_map.mp ha
    rw [Nat.testBit_lt_two_pow (Nat.lt_of_lt_of_le h (Nat.pow_le_pow_right (by decide) (Nat.le_add_right m j)))]
    decide
  rw [e, List.append_nil]
/-- sorted days below 16 are the days of their set -/
theorem daysOf_filter {m : Nat} (f : Nat → Bool) (hm : m ≤ 16) : daysOf (setOf ((List.range m).filter f)) = (List.range m).filter f := by
  obtain ⟨k, hk⟩ := Nat.exists_eq_add_of_le hm
  unfold daysOf
  rw [hk, List.range_add, List.filter_append]
  have e : (List.map (fun x => m + x) (List.range k)).filter (fun d => (setOf ((List.range m).filter f)).testBit d) = [] := by
    rw [List.filter_eq_nil_iff]
    intro a ha
    obtain ⟨j, _, rfl⟩ := List.mem_map.mp ha
    rw [setOf_bit]
    have z : ¬ m + j < m := by omega
    simp [z]
  rw [e, List.append_nil]
  refine List.filter_congr fun d hd => ?_
  have hd' := List.mem_range.mp hd
  rw [setOf_bit]
  simp [hd']
theorem setOf_lt {ds : List Nat} {m : Nat} (h : ∀ d ∈ ds, d < m) : setOf ds < 2 ^ m := by
  refine Nat.lt_pow_two_of_testBit _ fun i hi => ?_
  rw [setOf_bit]
  simp only [decide_eq_false_iff_not]
  intro hm
  have := h i hm
  omega
/-- one set within another -/
theorem sub_iff (a b : Nat) : a &&& b = a ↔ ∀ i, a.testBit i = true → b.testBit i = true := by
  constructor
  · intro h i hi
    have : (a &&& b).testBit i = true := by rw [h]; exact hi
    rw [Nat.testBit_and] at this
    exact (Bool.and_eq_true_iff.mp this).2
  · intro h
    refine Nat.eq_of_testBit_eq fun i => ?_
    rw [Nat.testBit_and]
    cases e : a.testBit i with
    | false => rfl
    | true => rw [h i e]; rfl
end My
set_option Elab.async false
set_option maxRecDepth 100000
set_option maxHeartbeats 4000000
namespace My
open PySem L2
/-! ### rules with the written part named: for the blocks of comprehensions -/
section
variable {X : Cx} {K : PySem.W.Frag}
theorem ix_listK (h : X.K = K) : IxR X (rIxL K) := by subst h; exact ix_list
theorem ix_tupK (h : X.K = K) : IxR X (rIxT K) := by subst h; exact ix_tup
theorem op_eqDK (h : X.K = K) (hu : X.A.units + 64 < cLine) : OpR X (compareOp .Eq) (rEqD K) := by subst h; exact op_eqD hu
theorem op_neDK (h : X.K = K) (hu : X.A.units + 64 < cLine) : OpR X (compareOp .NotEq) (rNeD K) := by subst h; exact op_neD hu
theorem op_inK (h : X.K = K) : OpR X (compareOp .In) (rIn K false) := by subst h; exact op_in_seq
theorem op_notInK (h : X.K = K) : OpR X (compareOp .NotIn) (rIn K true) := by subst h; exact op_notIn_seq
def rLenK (K : PySem.W.Frag) : List V → Hp → VK → Prop := fun xs H Q => ∃ p ys, xs = [.ref p] ∧ (SqL K H p ys ∨ SqT K H p ys) ∧ Q (.int (ys.length : Nat)) H
theorem call_lenK (h : X.K = K) : CallR X (.builtin "len") (rLenK K) := by subst h; exact call_len_seq
theorem call_isiKn (h : X.K = K) : CallR X (.builtin "isinstance") (rIsi K) := by subst h; exact call_isi
def tTruK (K : PySem.W.Frag) (ta : TE) : TT := fun σ H Q => ta σ H fun x H' => ∃ k, TruV K x H' k ∧ Q k H'
theorem pt_truthK {a : Expr} {ta : TE} (h : X.K = K) (ha : PE X a ta) (he : ∀ whole, isTrue a X.env whole = (do let v ← whole; standAt a.pos; holding [v] (truthy v)) := by intro _; rfl) : PT X a (tTruK K ta) := by
  subst h; exact pt_truth ha he
theorem pe_fldK {e : Expr} {f : Str} {pos : Pos} {ta : TE} (h : X.K = K) (he : PE X e ta) (hb : attributeBase e f X.env (eval e X.env) = eval e X.env := by rfl) : PE X (.Attribute e f pos) (tFld K ta f) := by
  subst h; exact pe_fld he hb
end
end My
namespace My
open PySem L2
/-! ### comprehensions over a list, each element by itself -/
theorem wipe1 (σ : St) (j : Nat) (v : Option V) : wipe ((wipe σ [j]).set j v) [j] = wipe σ [j] := by
  show (((σ.set j none).set j v).set j none) = σ.set j none
  rw [List.set_set, List.set_set]
/-- [e for x in xs], the heap but for new objects as it was -/
theorem lc_mapL {K : PySem.W.Frag} {a D : Addr} {xs ys : List V} {j : Nat} {te : TE} {σ : St} {H : Hp} {Qd : Hp → Prop} (hS : SqL K H a xs) (hD : H D = none) (hl : xs.length = ys.length) (hn : xs.length ≤ 100000)
    (he : ∀ (i : Nat) (x y : V) (H2 : Hp), xs[i]? = some x → ys[i]? = some y → Same H H2 → ∀ Q : VK, (∀ H3, Same H2 H3 → Q y H3) → te ((wipe σ [j]).set j (some x)) H2 Q)
    (hd : ∀ H2, Same H H2 → H2 D = some (.lst ys) → Qd H2) :
    ∃ W : Nat → Nat → Hp → Prop, (∃ m, W 0 m (upd H D (.lst []))) ∧ ∀ i m H, W i m H →
      ((Itl K a).stop i H ∧ Qd H) ∨ ((Itl K a).go i H ∧ ∃ Nx : Hp → Prop, (∀ H', Nx H' → ∃ m', m' < m ∧ W (i + 1) m' H') ∧ ∀ x H', (Itl K a).yld i H x H' → gName j x (wipe σ [j]) H' fun σ2 H2 => wipe σ2 [j] = wipe σ [j] ∧ tYes σ2 H2 fun b H3 =>
        if b = true then te σ2 H3 fun y H4 => ∃ acc, H4 D = some (.lst acc) ∧ acc.length < sizeLine ∧ Nx (upd H4 D (.lst (acc ++ [y]))) else Nx H3) := by
  have sD : Same H (upd H D (.lst [])) := fun b o e => by
    rw [upd_ne (ne_of_none e hD)]; exact e
  refine lc_list (K := K) (a := a) (xs := xs) (fun i H2 => Same H H2 ∧ H2 D = some (.lst (ys.take i))) ⟨sD, upd_same⟩ (fun i H2 _ h => h.1.seq hS) ?_ ?_
  · rintro i x H2 hi ⟨s2, h2⟩
    have hi1 : i < xs.length := (List.getElem?_eq_some_iff.mp hi).1
    have hy : ys[i]? = some (ys[i]'(by omega)) := List.getElem?_eq_getElem _
    refine ⟨wipe1 σ j _, ?_⟩
    refine iteT (B := Same H H2 ∧ H2 D = some (.lst (ys.take (i + 1)))) ?_
    refine he i x _ H2 hi hy s2 _ fun H3 s3 => ?_
    refine ⟨_, s3 _ _ h2, ?_, fun b o e => ?_, ?_⟩
    · rw [List.length_take]
      exact Nat.lt_of_le_of_lt (Nat.min_le_left _ _) (Nat.lt_of_lt_of_le hi1 (Nat.le_trans hn (by decide)))
    · rw [upd_ne (ne_of_none e hD)]
      exact s3 _ _ (s2 _ _ e)
    · rw [upd_same, List.take_add_one, hy]
      rfl
  · rintro H2 ⟨s2, h2⟩
    refine hd H2 s2 ?_
    rw [h2, hl, List.take_length]
/-- [x for x in xs if t], the test leaves the heap but for new objects as it was -/
theorem lc_filterL {K : PySem.W.Frag} {a D : Addr} {xs : List V} {j : Nat} {tt : TT} {σ : St} {H : Hp} {Qd : Hp → Prop} (f : V → Bool) (hj : j < σ.length) (hS : SqL K H a xs) (hD : H D = none) (hn : xs.length ≤ 100000)
    (ht : ∀ (i : Nat) (x : V) (H2 : Hp), xs[i]? = some x → Same H H2 → ∀ Q : Bool → Hp → Prop, (∀ H3, Same H2 H3 → Q (f x) H3) → tt ((wipe σ [j]).set j (some x)) H2 Q)
    (hd : ∀ H2, Same H H2 → H2 D = some (.lst (xs.filter f)) → Qd H2) :
    ∃ W : Nat → Nat → Hp → Prop, (∃ m, W 0 m (upd H D (.lst []))) ∧ ∀ i m H, W i m H →
      ((Itl K a).stop i H ∧ Qd H) ∨ ((Itl K a).go i H ∧ ∃ Nx : Hp → Prop, (∀ H', Nx H' → ∃ m', m' < m ∧ W (i + 1) m' H') ∧ ∀ x H', (Itl K a).yld i H x H' → gName j x (wipe σ [j]) H' fun σ2 H2 => wipe σ2 [j] = wipe σ [j] ∧ tt σ2 H2 fun b H3 =>
        if b = true then tVar j σ2 H3 fun y H4 => ∃ acc, H4 D = some (.lst acc) ∧ acc.length < sizeLine ∧ Nx (upd H4 D (.lst (acc ++ [y]))) else Nx H3) := by
  have sD : Same H (upd H D (.lst [])) := fun b o e => by
    rw [upd_ne (ne_of_none e hD)]; exact e
  refine lc_list (K := K) (a := a) (xs := xs) (fun i H2 => Same H H2 ∧ H2 D = some (.lst ((xs.take i).filter f))) ⟨sD, upd_same⟩ (fun i H2 _ h => h.1.seq hS) ?_ ?_
  · rintro i x H2 hi ⟨s2, h2⟩
    have hi1 : i < xs.length := (List.getElem?_eq_some_iff.mp hi).1
    have et : (xs.take (i + 1)).filter f = (xs.take i).filter f ++ (if f x = true then [x] else []) := by
      rw [List.take_add_one, hi, List.filter_append]
      by_cases z : f x = true <;> simp [z]
    refine ⟨wipe1 σ j _, ht i x H2 hi s2 _ fun H3 s3 => ?_⟩
    refine ite2 (fun z => ?_) (fun z => ?_)
    · refine ⟨x, ?_, _, s3 _ _ h2, ?_, fun b o e => ?_, ?_⟩
      · show ((σ.set j none).set j (some x))[j]? = some (some x)
        rw [List.set_set, List.getElem?_set_self hj]
      · refine Nat.lt_of_le_of_lt (List.length_filter_le _ _) ?_
        rw [List.length_take]
        exact Nat.lt_of_le_of_lt (Nat.min_le_left _ _) (Nat.lt_of_lt_of_le hi1 (Nat.le_trans hn (by decide)))
      · rw [upd_ne (ne_of_none e hD)]
        exact s3 _ _ (s2 _ _ e)
      · rw [upd_same, et, if_pos z]
    · refine ⟨s2.trans s3, ?_⟩
      rw [s3 _ _ h2, et, if_neg z, List.append_nil]
  · rintro H2 ⟨s2, h2⟩
    refine hd H2 s2 ?_
    rw [h2, List.take_length]
end My
set_option Elab.async false
set_option maxRecDepth 100000
set_option maxHeartbeats 4000000
namespace My
open PySem L2
/-! ### lists of days, bits -/
def dys (ds : List Nat) : List V := (nInt ds).map V.int
theorem dys_len (ds : List Nat) : (dys ds).length = ds.length := by unfold dys nInt; rw [List.length_map, List.length_map]
theorem dys_app (ds es : List Nat) : dys (ds ++ es) = dys ds ++ dys es := by unfold dys nInt; rw [List.map_append, List.map_append]
theorem dys_at {ds : List Nat} {i : Nat} {x : V} (h : (dys ds)[i]? = some x) : ∃ d : Nat, ds[i]? = some d ∧ x = .int (d : Int) := by
  unfold dys nInt at h
  rw [List.getElem?_map, List.getElem?_map] at h
  cases e : ds[i]? with
  | none => rw [e] at h; cases h
  | some d => rw [e] at h; exact ⟨d, rfl, (Option.some.inj h).symm⟩
theorem filter_step (f : Nat → Bool) (i : Nat) : (List.range (i + 1)).filter f = (List.range i).filter f ++ (if f i = true then [i] else []) := by
  rw [List.range_succ, List.filter_append]
  congr 1
  by_cases h : f i = true <;> simp [h]
theorem bit_test (n d : Nat) : (Builtin.bitAnd ((n : Int) / 2 ^ (d : Int).toNat) 1 != 0) = n.testBit d := by
  have e1 : ((n : Int) / 2 ^ (d : Int).toNat) = ((n / 2 ^ d : Nat) : Int) := by
    rw [Int.toNat_natCast, ← PySem.W.kbt_cast]
    rfl
  rw [e1, PyProof.Rows.bitAnd_m1, Nat.testBit_eq_decide_div_mod_eq]
  generalize n / 2 ^ d = k
  have h : ((k : Int) % 2 = 0 ∧ k % 2 = 0) ∨ ((k : Int) % 2 = 1 ∧ k % 2 = 1) := by omega
  rcases h with ⟨h1, h2⟩ | ⟨h1, h2⟩ <;> simp [h1, h2]
theorem fold_take {ds : List Nat} {i d : Nat} (h : ds[i]? = some d) : setOf (ds.take (i + 1)) = setOf (ds.take i) ||| 2 ^ d := by
  have e : ds.take (i + 1) = ds.take i ++ [d] := by
    rw [List.take_add_one, h]; rfl
  unfold setOf
  rw [e, List.foldl_append]
  rfl
theorem or_pow (s d : Nat) : Builtin.bitOr (s : Int) (1 * 2 ^ (d : Int).toNat) = ((s ||| 2 ^ d : Nat) : Int) := by
  rw [Int.toNat_natCast, Int.one_mul, ← PySem.W.kbt_cast, bitOr_nn (Int.natCast_nonneg _) (Int.natCast_nonneg _), Int.toNat_natCast, Int.toNat_natCast]
theorem dys_flat (ds : List Nat) : (dys ds).all flatV = true := by
  unfold dys nInt
  simp [flatV]
theorem inV_dys (d : Nat) (ds : List Nat) : inV (.int (d : Int)) (dys ds) = decide (d ∈ ds) := by
  unfold inV dys nInt
  induction ds with
  | nil => rfl
  | cons e r ih =>
    rw [List.map_cons, List.map_cons, List.any_cons, ih]
    have : eqV (V.int (e : Int)) (V.int (d : Int)) = decide (d = e) := by
      show ((e : Int) == (d : Int)) = decide (d = e)
      by_cases h : d = e
      · subst h; simp
      · have h2 : ¬ (e : Int) = (d : Int) := by omega
        simp [h, h2]
    rw [this]
    by_cases h : d = e <;> simp [h]
theorem dys_filter (f : V → Bool) (g : Nat → Bool) (h : ∀ d : Nat, f (.int (d : Int)) = g d) : ∀ ds : List Nat, (dys ds).filter f = dys (ds.filter g)
  | [] => rfl
  | d :: r => by
    have ih := dys_filter f g h r
    show (V.int (d : Int) :: dys r).filter f = _
    by_cases z : g d = true
    · rw [List.filter_cons_of_pos (by rw [h]; exact z), List.filter_cons_of_pos z, ih]; rfl
    · rw [List.filter_cons_of_neg (by rw [h]; exact z), List.filter_cons_of_neg z, ih]
theorem dys_take (ds : List Nat) (n : Nat) : (dys ds).take n = dys (ds.take n) := by unfold dys nInt; rw [List.map_take, List.map_take]
theorem dys_rev (ds : List Nat) : (dys ds).reverse = dys ds.reverse := by unfold dys nInt; rw [List.map_reverse, List.map_reverse]
theorem dys_eq (ds es : List Nat) : (nInt ds = nInt es) ↔ ds = es := by
  unfold nInt
  constructor
  · intro h
    exact (List.map_inj_right (fun a b e => Int.ofNat.inj e)).mp h
  · rintro rfl; rfl
theorem pow_sum (ds : List Nat) : (ds.map fun d : Nat => (1 : Int) * 2 ^ (d : Int).toNat).sum = (((ds.map fun d => 2 ^ d).sum : Nat) : Int) := by
  induction ds with
  | nil => rfl
  | cons d r ih =>
    rw [List.map_cons, List.sum_cons, ih, List.map_cons, List.sum_cons, Int.toNat_natCast, Int.one_mul, ← PySem.W.kbt_cast]
    rfl
theorem cut1 (ds : List Nat) : cutV (dys ds) none (some 1) = dys (ds.take 1) := by
  unfold cutV
  rw [HT.sIx_none, List.drop_zero, show HT.sIx (dys ds).length (dys ds).length (some 1) = min 1 (dys ds).length from HT.sIx_nat _ _ 1, dys_len, Nat.sub_zero, dys_take]
  congr 1
  cases ds with
  | nil => rfl
  | cons d r =>
    have : min 1 (d :: r).length = 1 := by simp
    rw [this]
theorem setOf_days {n : Nat} (h : n < 2 ^ 16) : setOf (daysOf n) = n := by
  refine Nat.eq_of_testBit_eq fun i => ?_
  rw [setOf_bit]
  by_cases hi : i < 16
  · simp [mem_daysOf, hi]
  · have : n.testBit i = false := Nat.testBit_lt_two_pow (Nat.lt_of_lt_of_le h (Nat.pow_le_pow_right (by decide) (by omega)))
    rw [this]
    simp [mem_daysOf, hi]
theorem nodup_daysOf (n : Nat) : (daysOf n).Nodup := by
  unfold daysOf
  exact List.Pairwise.filter _ List.nodup_range
end My
set_option Elab.async false
set_option maxRecDepth 100000
set_option maxHeartbeats 4000000
namespace My
open PySem L2
def top (i : Nat) : Stmt := PySem.Challenge.pw_usualdays_k06_sayings_and_their_days.main.body.getD i (.Pass ⟨0, 0, 0, 0⟩)

/-- a def of the top as its callers see it -/
structure Df (K : PySem.W.Frag) (mg : Str → Option Value) (x : Str) (ps : List Str) (f : Addr) (fd : FuncData) : Prop where
  g : mg x = some (.ref f)
  kp : PySem.W.keepIn K (.ref f) = true
  b : Binds K fd ps []
/-- the built-ins' names -/
structure Bt (mg : Str → Option Value) : Prop where
  len : mg "len" = none
  abs : mg "abs" = none
  int : mg "int" = none
  enumerate : mg "enumerate" = none
  range : mg "range" = none

/-- all but b stays -/
def But (b : Addr) (H H' : Hp) : Prop := ∀ a o, a ≠ b → H a = some o → H' a = some o
theorem But.refl (b : Addr) (H : Hp) : But b H H := fun _ _ _ h => h
theorem But.trans {b : Addr} {H H1 H2 : Hp} (p : But b H H1) (q : But b H1 H2) : But b H H2 := fun a o n h => q a o n (p a o n h)
theorem But.of {b : Addr} {H H1 : Hp} (p : Same H H1) : But b H H1 := fun a o _ h => p a o h
theorem But.upd (b : Addr) (H : Hp) (o : HO) : But b H (L2.upd H b o) := fun a u n h => by rw [upd_ne n]; exact h
theorem same_new {H : Hp} {p : Addr} {o : HO} (h : H p = none) : Same H (upd H p o) := fun a u e => by
  rw [upd_ne (ne_of_none e h)]; exact e

/-- a bag: the digits left, the mix, the turns -/
def Bag (H : Hp) (b : Addr) : Prop := ∃ c m n : Int, H b = some (.lst [.int c, .int m, .int n]) ∧ 0 ≤ c ∧ 0 ≤ m ∧ m < 2 ^ 40 ∧ 0 ≤ n

def sp_l_take : Sp := fun vs H Q _ => ∃ (b : Addr) (k : Int), vs = [.ref b, .int k] ∧ Bag H b ∧ 0 < k ∧ k < 2 ^ 8000 ∧
  ∀ (r : Int) (H' : Hp), 0 ≤ r → r < k → Bag H' b → But b H H' → Q (.int r) H'

section
variable {P : Program} {w : World} {K : PySem.W.Frag} {mg : Str → Option Value} {base : Heap}
abbrev s_l_take : Stmt := top 15
abbrev N_l_take : List Str := ["_law_bag_here", "_law_many", "_law_digit"]
theorem sc_l_take : FnScope N_l_take ["_law_bag_here", "_law_many"] (defScope s_l_take) := ⟨rfl, rfl, rfl, by decide +kernel, rfl, by decide +kernel, by decide +kernel⟩
theorem ok_l_take {f : Addr} {fd : FuncData} (F : Fun K "_law_take" "_law_take" s_l_take f fd) (T : Bt mg) : FnOk P w K mg base CX0 2 f fd ["_law_bag_here", "_law_many"] sp_l_take := by
  refine F.ok sc_l_take (fun vs H Q E h => ?_) (fun cdv A outer s H vs Q E hr h => ?_)
  · obtain ⟨b, k, rfl, _⟩ := h
    rfl
  · obtain ⟨b, k, rfl, ⟨c, m, n, hb, hc, hm, hm', hn⟩, hk, hk', q⟩ := h
    refine ⟨_, (pss_cons (ps_if (pt_cmpR op_gt (pe_ix ix_list (pv 0) pe_int (fun _ _ => rfl)) pe_int (nomark _)) (pss_cons (ps_set (i := 2) sc_l_take.nd rfl (Or.inl rfl) (pe_op op_mod (pe_callTy call_int1 (by rfl) T.int (by decide +kernel) (pa_cons (pe_ix ix_list (pv 0) pe_int (fun _ _ => rfl)) pa_nil)) (pv 1)))
        (pss_cons (ps_asg (pe_op op_fdivW (pe_ix ix_list (pv 0) pe_int (fun _ _ => rfl)) (pv 1)) (pg_sub (pv 0) pe_int set_list))
        (pss_one (ps_ret (pv 2))))) pss_nil)
        (pss_cons (ps_asg (pe_op op_add (pe_ix ix_list (pv 0) pe_int (fun _ _ => rfl)) pe_int) (pg_sub (pv 0) pe_int set_list))
        (pss_cons (ps_asg (pe_op op_mod (pe_callTy call_int1 (by rfl) T.int (by decide +kernel) (pa_cons (pe_op op_add (pe_op op_add (pe_op op_mul (pe_ix ix_list (pv 0) pe_int (fun _ _ => rfl)) pe_int) (pe_op op_mul pe_int (pe_ix ix_list (pv 0) pe_int (fun _ _ => rfl)))) pe_int) pa_nil)) pe_int) (pg_sub (pv 0) pe_int set_list))
        (pss_one (ps_ret (pe_op op_mod (pe_op op_fdivW (pe_op op_mod (pe_callTy call_int1 (by rfl) T.int (by decide +kernel) (pa_cons (pe_op op_mul (pe_ix ix_list (pv 0) pe_int (fun _ _ => rfl)) pe_int) pa_nil)) pe_int) pe_int) (pv 1))))))), ?_⟩
    refine ⟨_, rfl, _, _, _, _, rfl, rfl, SqL.of hb, rfl, _, _, rfl, rfl, _, rfl, ?_⟩
    refine ite2 (fun z => ?_) (fun z => ?_)
    · have z' : 0 < c := of_decide_eq_true z
      refine ⟨_, rfl, _, _, _, _, rfl, rfl, SqL.of hb, rfl, .inl ⟨_, rfl, _, rfl, _, _, rfl, rfl, hk, ?_⟩⟩
      refine ⟨_, rfl, _, _, _, _, rfl, rfl, SqL.of hb, rfl, _, rfl, _, _, rfl, rfl, wide_div hk (b := 8000) (by omega) (by decide) (by decide), ?_⟩
      refine ⟨_, rfl, _, _, _, _, rfl, rfl, hb, rfl, ?_⟩
      refine ⟨_, rfl, ?_⟩
      refine q _ _ (Int.emod_nonneg _ (by omega)) (Int.emod_lt_of_pos _ hk) ⟨c / k, m, n, upd_same, Int.ediv_nonneg hc (by omega), hm, hm', hn⟩ (But.upd _ _ _)
    · refine ⟨_, rfl, _, _, _, _, rfl, rfl, SqL.of hb, rfl, _, _, rfl, rfl, ?_⟩
      refine ⟨_, rfl, _, _, _, _, rfl, rfl, hb, rfl, ?_⟩
      have hb2 : (upd H b (.lst ([V.int c, V.int m, V.int n].set 2 (V.int (n + 1))))) b = some (.lst [V.int c, V.int m, V.int (n + 1)]) := upd_same
      refine ⟨_, rfl, _, _, _, _, rfl, rfl, SqL.of hb2, rfl, _, _, rfl, rfl, .inr ⟨by decide, by decide⟩, ?_⟩
      refine ⟨_, rfl, _, _, _, _, rfl, rfl, SqL.of hb2, rfl, _, _, rfl, rfl, .inl ⟨by decide, by decide⟩, ?_⟩
      refine ⟨_, _, rfl, rfl, _, _, rfl, rfl, .inl ⟨_, rfl, _, _, rfl, rfl, (by show (0 : Int) < 2147483647; decide), ?_⟩⟩
      refine ⟨_, rfl, _, _, _, _, rfl, rfl, hb2, rfl, ?_⟩
      have h0 : 0 ≤ (m * 48271 + 11 * (n + 1) + 7) % 2147483647 := Int.emod_nonneg _ (by decide)
      have h1 : (m * 48271 + 11 * (n + 1) + 7) % 2147483647 < 2147483647 := Int.emod_lt_of_pos _ (by decide)
      have hb3 : (upd (upd H b (.lst ([V.int c, V.int m, V.int n].set 2 (V.int (n + 1))))) b (.lst ([V.int c, V.int m, V.int (n + 1)].set 1 (V.int ((m * 48271 + 11 * (n + 1) + 7) % 2147483647))))) b = some (.lst [V.int c, V.int ((m * 48271 + 11 * (n + 1) + 7) % 2147483647), V.int (n + 1)]) := upd_same
      refine ⟨_, rfl, _, _, _, _, rfl, rfl, SqL.of hb3, rfl, _, _, rfl, rfl, .inr ⟨by decide, by decide⟩, .inl ⟨_, rfl, ?_⟩⟩
      refine ⟨_, _, rfl, rfl, (by show (0 : Int) < 2147483629; decide), _, _, rfl, rfl, wide_div (by decide) (b := 8) (by decide) (by decide) (by decide), ?_⟩
      refine ⟨_, rfl, _, _, rfl, rfl, hk, ?_⟩
      exact q _ _ (Int.emod_nonneg _ (by omega)) (Int.emod_lt_of_pos _ hk) ⟨c, _, n + 1, hb3, hc, h0, by omega, by omega⟩ ((But.upd _ _ _).trans (But.upd _ _ _))
end
end My
set_option Elab.async false
set_option maxRecDepth 100000
set_option maxHeartbeats 4000000
namespace My
open PySem L2
/-! ### the bag, a pick -/
def sp_l_bag (K : PySem.W.Frag) : Sp := fun vs H Q _ => ∃ (a : Addr) (ns : List Int) (k : Int), vs = [.ref a, .int k] ∧ SqL K H a (ns.map V.int) ∧ ns.length ≤ 63 ∧ 0 ≤ k ∧ k < 1000 ∧
  ∀ (b : Addr) (H' : Hp), H b = none → Same H H' → Bag H' b → Q (.ref b) H'
def sp_l_of : Sp := fun vs H Q _ => ∃ (b a : Addr) (xs : List V), vs = [.ref b, .ref a] ∧ Bag H b ∧ a ≠ b ∧ H a = some (.lst xs) ∧ 0 < xs.length ∧ xs.length ≤ 100000 ∧
  ∀ (i : Nat) (v : V) (H' : Hp), xs[i]? = some v → Bag H' b → But b H H' → Q v H'
/-- an expression's value by a relation, kept apart from what follows -/
theorem asg_of {te : TE} {i : Nat} {U : TS} {D : Ends} {σ : St} {H : Hp} {R : V → Hp → Prop} (k : ∀ Q : VK, (∀ v H', R v H' → Q v H') → te σ H Q) (h : ∀ v H', R v H' → U D (σ.set i (some v)) H') :
    tSeq (tAsg te (gName i)) U D σ H := k _ h
theorem asg_ret {te : TE} {tr : TA} {D : Ends} {σ : St} {H : Hp} {R : V → Hp → Prop} (k : ∀ Q : VK, (∀ v H', R v H' → Q v H') → te σ H Q) (h : ∀ v H', R v H' → tr σ H' fun xs H2 => (v :: xs).length ≤ sizeLine ∧ ∀ p, H2 p = none → D.rt (.ref p) (upd H2 p (.lst (v :: xs)))) :
    tRet (tLst (tCons te tr)) D σ H := k _ h
section
variable {P : Program} {w : World} {K : PySem.W.Frag} {mg : Str → Option Value} {base : Heap}
abbrev s_l_bag : Stmt := top 14
abbrev N_l_bag : List Str := ["_law_script", "_law_at", "_law_cell", "_law_mix", "_law_k", "_law_each"]
theorem sc_l_bag : FnScope N_l_bag ["_law_script", "_law_at"] (defScope s_l_bag) := ⟨rfl, rfl, rfl, by decide +kernel, rfl, by decide +kernel, by decide +kernel⟩
theorem int_at {ns : List Int} {i : Nat} {x : V} (h : (ns.map V.int)[i]? = some x) : ∃ z, x = .int z ∧ ns[i]? = some z := by
  rw [List.getElem?_map] at h
  cases e : ns[i]? with
  | none => rw [e] at h; cases h
  | some z => rw [e] at h; exact ⟨z, (Option.some.inj h).symm, rfl⟩
theorem cut_ints (ns : List Int) (hi : Option Int) : ∃ ms : List Int, cutV (ns.map V.int) none hi = ms.map V.int ∧ ms.length ≤ ns.length := by
  refine ⟨(ns.drop (HT.sIx (ns.map V.int).length 0 none)).take (HT.sIx (ns.map V.int).length (ns.map V.int).length hi - HT.sIx (ns.map V.int).length 0 none), ?_, ?_⟩
  · unfold cutV
    rw [List.map_take, List.map_drop]
  · rw [List.length_take, List.length_drop]
    omega
theorem ok_l_bag {f : Addr} {fd : FuncData} (F : Fun K "_law_bag" "_law_bag" s_l_bag f fd) (T : Bt mg) : FnOk P w K mg base CX0 2 f fd ["_law_script", "_law_at"] (sp_l_bag K) := by
  refine F.ok sc_l_bag (fun vs H Q E h => ?_) (fun cdv A outer s H vs Q E hr h => ?_)
  · obtain ⟨a, ns, k, rfl, _⟩ := h
    rfl
  · obtain ⟨a, ns, k, rfl, hS, hl, hk, hk', q⟩ := h
    refine ⟨_, (pss_cons (ps_set (i := 2) sc_l_bag.nd rfl (Or.inl rfl) (pe_ifExp (pt_cmpR op_lt (pv 1) (pe_callB call_len_seq (by rfl) T.len (by decide +kernel) (pa_cons (pv 0) pa_nil)) (nomark _)) (pe_callB call_abs (by rfl) T.abs (by decide +kernel) (pa_cons (pe_callTy call_int1 (by rfl) T.int (by decide +kernel) (pa_cons (pe_ix ix_list (pv 0) (pv 1) (fun _ _ => rfl)) pa_nil)) pa_nil)) pe_int))
        (pss_cons (ps_set (i := 3) sc_l_bag.nd rfl (Or.inl rfl) (pe_op op_add pe_int (pe_op op_mul pe_int (pv 1))))
        (pss_cons (ps_for PassesOwn.never rfl (pi_enum (by rfl) T.enumerate (pa_cons (pe_slice sl_list (pv 0) po_none (po_some pe_int)) pa_nil)) (pg_tup rfl (pgs_cons (pg_name (i := 4) sc_l_bag.nd rfl (Or.inl rfl)) (pgs_cons (pg_name (i := 5) sc_l_bag.nd rfl (Or.inl rfl)) pgs_nil))) (pss_one (ps_set (i := 3) sc_l_bag.nd rfl (Or.inl rfl) (pe_op op_mod (pe_callTy call_int1 (by rfl) T.int (by decide +kernel) (pa_cons (pe_op op_add (pe_op op_add (pe_op op_mul (pv 3) pe_int) (pe_op op_mod (pe_callTy call_int1 (by rfl) T.int (by decide +kernel) (pa_cons (pv 5) pa_nil)) pe_int)) (pe_op op_mul pe_int (pv 4))) pa_nil)) pe_int))))
        (pss_one (ps_ret (pe_lst (pa_cons (pe_ifExp (pt_cmpR op_ge (pv 2) (pe_op op_pow pe_int pe_int) (nomark _)) (pv 2) pe_int) (pa_cons (pv 3) (pa_cons pe_int pa_nil))))))))), ?_⟩
    refine asg_of (R := fun v H' => ∃ c : Int, v = .int c ∧ 0 ≤ c ∧ H' = H) (fun Q' q' => ?_) fun v H' ⟨c, e, hc, eH⟩ => ?_
    · refine ⟨_, rfl, _, rfl, _, _, rfl, .inl hS, _, _, rfl, rfl, _, rfl, ?_⟩
      refine ite2 (fun z => ?_) (fun z => ?_)
      · have z' : k < ((ns.map V.int).length : Int) := of_decide_eq_true z
        obtain ⟨j, rfl⟩ := Int.eq_ofNat_of_zero_le hk
        rw [List.length_map] at z'
        have hj : j < ns.length := by omega
        refine ⟨_, rfl, _, rfl, _, _, _, _, rfl, rfl, hS, atI_nat (by rw [List.getElem?_map, List.getElem?_eq_getElem hj]; rfl), .inl ⟨_, rfl, _, rfl, ?_⟩⟩
        refine q' _ _ ⟨_, rfl, ?_, rfl⟩
        split <;> omega
      · exact q' _ _ ⟨0, rfl, Int.le_refl _, rfl⟩
    · subst e eH
      refine ⟨_, rfl, _, _, rfl, rfl, .inl ⟨by decide, by decide⟩, _, _, rfl, rfl, ?_⟩
      refine ⟨_, rfl, _, rfl, _, _, rfl, hS, fun p hp => ?_⟩
      obtain ⟨ms, em, hm⟩ := cut_ints ns (some 63)
      have hp2 : (upd H' p (.lst (cutV (ns.map V.int) none (some 63)))) p = some (.lst (ms.map V.int)) := by rw [upd_same, em]
      refine ⟨p, _, rfl, SqL.of hp2, for_it (walk_enum (K := K) (a := p) (xs := ms.map V.int)) (fun i σ H2 => ∃ (mix : Int) (u v : Option V), σ = [some (.ref a), some (.int k), some (.int c), some (.int mix), u, v] ∧ 0 ≤ mix ∧ mix < 2 ^ 40 ∧ Same H' H2 ∧ H2 p = some (.lst (ms.map V.int))) ?_ (fun i σ H2 _ ⟨_, _, _, _, _, _, _, h⟩ => SqL.of h) ?_ ?_⟩
      · refine ⟨70003 + 6997 * k, none, none, rfl, by omega, by omega, same_new hp, hp2⟩
      · rintro i x σ H2 H3 hi ⟨mix, u, v, rfl, h0, h1, s2, h2⟩ ⟨t, x1, x2, rfl, ht, rfl, e1, e2⟩
        cases e1
        obtain ⟨z, rfl, _⟩ := int_at e2
        have hi' : i < 63 := by rw [List.length_map] at hi; omega
        refine ⟨t, _, rfl, SqT.of upd_same, rfl, _, _, rfl, _, _, rfl, rfl, ?_⟩
        refine ⟨_, rfl, _, _, rfl, rfl, .inr ⟨by decide, by decide⟩, ?_⟩
        refine ⟨_, rfl, .inl ⟨_, rfl, _, _, rfl, rfl, (by show (0 : Int) < 2147483543; decide), ?_⟩⟩
        refine ⟨_, _, rfl, rfl, _, rfl, _, _, rfl, rfl, .inl ⟨by decide, by decide⟩, ?_⟩
        refine ⟨_, _, rfl, rfl, .inl ⟨_, rfl, _, _, rfl, rfl, (by show (0 : Int) < 2147483563; decide), ?_⟩⟩
        refine ⟨_, _, _, rfl, Int.emod_nonneg _ (by decide), Int.lt_trans (Int.emod_lt_of_pos _ (by decide)) (by decide), s2.trans (same_new ht), ?_⟩
        rw [upd_ne (ne_of_none h2 ht)]
        exact h2
      · rintro σ H2 ⟨mix, u, v, rfl, h0, h1, s2, h2⟩
        dsimp only
        refine asg_ret (R := fun v H' => ∃ c : Int, v = .int c ∧ 0 ≤ c ∧ H' = H2) (fun Q' q' => ?_) fun v H' ⟨c, e, hc, eH⟩ => ?_
        · refine ⟨_, rfl, _, _, rfl, rfl, ⟨by decide, by decide, by decide⟩, _, _, rfl, rfl, _, rfl, ?_⟩
          refine ite2 (fun z => ?_) (fun z => ?_)
          · exact ⟨_, rfl, q' _ _ ⟨_, rfl, hc, rfl⟩⟩
          · exact q' _ _ ⟨0, rfl, Int.le_refl _, rfl⟩
        · subst e eH
          refine ⟨_, rfl, (by show 3 ≤ sizeLine; decide), fun b hb => q b _ (s2.free hb) (s2.trans (same_new hb)) ⟨c, mix, 0, upd_same, hc, h0, h1, Int.le_refl _⟩⟩
end
end My
set_option Elab.async false
set_option maxRecDepth 100000
set_option maxHeartbeats 4000000
namespace My
open PySem L2
theorem Bag.same {H H' : Hp} {b : Addr} (h : Bag H b) (s : Same H H') : Bag H' b := by
  obtain ⟨c, m, n, e, r⟩ := h
  exact ⟨c, m, n, s _ _ e, r⟩
theorem Bag.ne {H : Hp} {b l : Addr} (h : Bag H b) (s : H l = none) : l ≠ b := fun e => by
  obtain ⟨c, m, n, z, r⟩ := h
  rw [e, z] at s; cases s
theorem at_exists {xs : List V} {r : Int} (h0 : 0 ≤ r) (h1 : r < (xs.length : Int)) : ∃ (i : Nat) (v : V), xs[i]? = some v ∧ atI xs r = some v := by
  obtain ⟨j, rfl⟩ := Int.eq_ofNat_of_zero_le h0
  have hj : j < xs.length := by omega
  exact ⟨j, xs[j], by simp [hj], atI_nat (by simp [hj])⟩
section
variable {P : Program} {w : World} {K : PySem.W.Frag} {mg : Str → Option Value} {base : Heap}
abbrev s_l_of : Stmt := top 16
abbrev N_l_of : List Str := ["_law_bag_here", "_law_some"]
theorem sc_l_of : FnScope N_l_of ["_law_bag_here", "_law_some"] (defScope s_l_of) := ⟨rfl, rfl, rfl, by decide +kernel, rfl, by decide +kernel, by decide +kernel⟩
theorem ok_l_of {f fT : Addr} {fd fdT : FuncData} (F : Fun K "_law_of" "_law_of" s_l_of f fd) (T : Bt mg) (D_l_take : Df K mg "_law_take" ["_law_bag_here", "_law_many"] fT fdT)
    (G_l_take : FnOk P w K mg base CX0 2 fT fdT ["_law_bag_here", "_law_many"] sp_l_take) : FnOk P w K mg base CX0 3 f fd ["_law_bag_here", "_law_some"] sp_l_of := by
  refine F.ok sc_l_of (fun vs H Q E h => ?_) (fun cdv A outer s H vs Q E hr h => ?_)
  · obtain ⟨b, a, xs, rfl, _⟩ := h
    rfl
  · obtain ⟨b, a, xs, rfl, hB, nab, ha, hl, hl2, q⟩ := h
    refine ⟨_, (pss_one (ps_ret (pe_ix ix_list (pv 1) (pe_call G_l_take (hr.mono (by decide)) (by rfl) D_l_take.g D_l_take.kp D_l_take.b .nil pass0 (pa_cons (pv 0) (pa_cons (pe_callB call_len_seq (by rfl) T.len (by decide +kernel) (pa_cons (pv 1) pa_nil)) pa_nil))) (fun _ _ => rfl)))), ?_⟩
    refine ⟨_, rfl, _, rfl, _, rfl, _, _, rfl, .inl (SqL.of ha), b, _, rfl, hB, by omega, ?_, fun r H' h0 h1 hB' hk => ?_⟩
    · exact Int.lt_of_le_of_lt (b := 100000) (by omega) (by decide +kernel)
    · obtain ⟨i, v, e1, e2⟩ := at_exists h0 h1
      exact ⟨a, xs, r, v, rfl, rfl, SqL.of (hk a _ nab ha), e2, q i v H' e1 hB' hk⟩

end
end My
set_option Elab.async false
set_option maxRecDepth 100000
set_option maxHeartbeats 4000000
namespace My
open PySem L2
/-! ### kinds of values -/
def whole (lo hi : Int) : V → Bool
  | .int i => decide (lo ≤ i) && decide (i ≤ hi)
  | _ => false
def isB : V → Bool
  | .bl _ => true
  | _ => false
/-- an int, a bool, or something of a built-in type that is neither -/
def Th (K : PySem.W.Frag) (H : Hp) (x : V) : Prop := (∃ i, x = .int i) ∨ (∃ k, x = .bl k) ∨ ((∀ i, x ≠ .int i) ∧ (∀ k, x ≠ .bl k) ∧ ∃ t, TyX K H x (.type t) ∧ kitB t "int" = some false ∧ kitB t "bool" = some false)
theorem Th.not {K : PySem.W.Frag} {H : Hp} {x : V} (h : (∀ i, x ≠ .int i) ∧ (∀ k, x ≠ .bl k)) (lo hi : Int) : whole lo hi x = false ∧ isB x = false := by
  obtain ⟨h1, h2⟩ := h
  cases x with
  | int i => exact (h1 i rfl).elim
  | bl k => exact (h2 k rfl).elim
  | _ => exact ⟨rfl, rfl⟩
theorem whole_int {lo hi : Int} {x : V} (h : whole lo hi x = true) : ∃ i, x = .int i ∧ lo ≤ i ∧ i ≤ hi := by
  cases x with
  | int i =>
    have h' : (decide (lo ≤ i) && decide (i ≤ hi)) = true := h
    rw [Bool.and_eq_true, decide_eq_true_iff, decide_eq_true_iff] at h'
    exact ⟨i, rfl, h'.1, h'.2⟩
  | _ => cases h
theorem isB_bl {x : V} (h : isB x = true) : ∃ b, x = .bl b := by
  cases x with
  | bl b => exact ⟨b, rfl⟩
  | _ => cases h
structure BtY (mg : Str → Option Value) : Prop where
  isinstance : mg "isinstance" = none
  int : mg "int" = none
  bool : mg "bool" = none
  hs : ∃ t, mg "HIGHEST_DAY_SET" = some (.int 65535 t)
  hd : ∃ t, mg "HIGHEST_DAY" = some (.int 15 t)
def sp_whole (K : PySem.W.Frag) : Sp := fun vs H Q _ => ∃ (x : V) (lo hi : Int), vs = [x, .int lo, .int hi] ∧ Th K H x ∧ Q (.bl (whole lo hi x)) H
def sp_is_day_set (K : PySem.W.Frag) : Sp := fun vs H Q _ => ∃ x : V, vs = [x] ∧ Th K H x ∧ Q (.bl (whole 0 65535 x)) H
section
variable {P : Program} {w : World} {K : PySem.W.Frag} {mg : Str → Option Value} {base : Heap}
/-- isinstance(x, int), isinstance(x, bool) -/
theorem isi_int {H : Hp} {Q : VK} {x : V} (h : Th K H x) (q : Q (.bl (match x with | .int _ => true | .bl _ => true | _ => false)) H) : rIsi K [x, .ty "int"] H Q := by
  rcases h with ⟨i, rfl⟩ | ⟨k, rfl⟩ | ⟨h1, h2, t, ty, ki, kb⟩
  · exact ⟨_, _, _, _, true, rfl, .ty "int", .base (.int i), kit_ty (by decide +kernel), q⟩
  · exact ⟨_, _, _, _, true, rfl, .ty "int", .base (.bl k), kit_ty (by decide +kernel), q⟩
  · refine ⟨_, _, _, _, false, rfl, .ty "int", ty, kit_ty ki, ?_⟩
    cases x with
    | int i => exact (h1 i rfl).elim
    | bl k => exact (h2 k rfl).elim
    | _ => exact q
theorem isi_bool {H : Hp} {Q : VK} {x : V} (h : Th K H x) (q : Q (.bl (isB x)) H) : rIsi K [x, .ty "bool"] H Q := by
  rcases h with ⟨i, rfl⟩ | ⟨k, rfl⟩ | ⟨h1, h2, t, ty, ki, kb⟩
  · exact ⟨_, _, _, _, false, rfl, .ty "bool", .base (.int i), kit_ty (by decide +kernel), q⟩
  · exact ⟨_, _, _, _, true, rfl, .ty "bool", .base (.bl k), kit_ty (by decide +kernel), q⟩
  · refine ⟨_, _, _, _, false, rfl, .ty "bool", ty, kit_ty kb, ?_⟩
    cases x with
    | int i => exact (h1 i rfl).elim
    | bl k => exact (h2 k rfl).elim
    | _ => exact q
abbrev s_is_number : Stmt := top 5
abbrev N_is_number : List Str := ["thing"]
theorem sc_is_number : FnScope N_is_number ["thing"] (defScope s_is_number) := ⟨rfl, rfl, rfl, by decide +kernel, rfl, by decide +kernel, by decide +kernel⟩
def isnum : V → Bool
  | .int _ => true
  | _ => false
def sp_num (K : PySem.W.Frag) : Sp := fun vs H Q _ => ∃ x : V, vs = [x] ∧ Th K H x ∧ Q (.bl (isnum x)) H
theorem ok_is_number {f : Addr} {fd : FuncData} (F : Fun K "is_number" "is_number" s_is_number f fd) (T : BtY mg) : FnOk P w K mg base CX0 1 f fd ["thing"] (sp_num K) := by
  refine F.ok sc_is_number (fun vs H Q E h => ?_) (fun cdv A outer s H vs Q E hr h => ?_)
  · obtain ⟨x, rfl, _⟩ := h
    rfl
  · obtain ⟨x, rfl, hx, q⟩ := h
    refine ⟨_, (pss_one (ps_ret (pe_and (pe_callB call_isi (by rfl) T.isinstance (by decide +kernel) (pa_cons (pv 0) (pa_cons (pe_bltn (v := .ty "int") (by rfl) T.int (by decide +kernel) rfl) pa_nil))) (pe_one (pe_not (pe_callB call_isi (by rfl) T.isinstance (by decide +kernel) (pa_cons (pv 0) (pa_cons (pe_bltn (v := .ty "bool") (by rfl) T.bool (by decide +kernel) rfl) pa_nil)))))))), ?_⟩
    refine ⟨_, rfl, ?_⟩
    dsimp only [tCons, tC, tNil]
    refine isi_int hx ?_
    have hx2 := hx
    rcases hx with ⟨i, rfl⟩ | ⟨k, rfl⟩ | ⟨h1, h2, _⟩
    · refine ⟨_, rfl, iteT ⟨_, rfl, ?_⟩⟩
      dsimp only [tCons, tC, tNil]
      exact isi_bool hx2 ⟨_, rfl, q⟩
    · refine ⟨_, rfl, iteT ⟨_, rfl, ?_⟩⟩
      dsimp only [tCons, tC, tNil]
      exact isi_bool hx2 ⟨_, rfl, q⟩
    · cases x with
      | int i => exact (h1 i rfl).elim
      | bl k => exact (h2 k rfl).elim
      | _ => exact ⟨_, rfl, iteF q⟩
abbrev s_is_whole : Stmt := top 6
abbrev N_is_whole : List Str := ["thing", "low", "high"]
theorem sc_is_whole : FnScope N_is_whole ["thing", "low", "high"] (defScope s_is_whole) := ⟨rfl, rfl, rfl, by decide +kernel, rfl, by decide +kernel, by decide +kernel⟩
theorem ok_is_whole {f fN : Addr} {fd fdN : FuncData} (F : Fun K "is_whole" "is_whole" s_is_whole f fd) (D_is_number : Df K mg "is_number" ["thing"] fN fdN) (G_is_number : FnOk P w K mg base CX0 1 fN fdN ["thing"] (sp_num K)) : FnOk P w K mg base CX0 2 f fd ["thing", "low", "high"] (sp_whole K) := by
  refine F.ok sc_is_whole (fun vs H Q E h => ?_) (fun cdv A outer s H vs Q E hr h => ?_)
  · obtain ⟨x, lo, hi, rfl, _⟩ := h
    rfl
  · obtain ⟨x, lo, hi, rfl, hx, q⟩ := h
    refine ⟨_, (pss_one (ps_ret (pe_and (pe_call G_is_number (hr.mono (by decide)) (by rfl) D_is_number.g D_is_number.kp D_is_number.b .nil pass0 (pa_cons (pv 0) pa_nil)) (pe_one (pe_chain op_le op_le (pv 1) (pv 0) (pv 2)))))), ?_⟩
    refine ⟨_, rfl, x, rfl, hx, ?_⟩
    rcases hx with ⟨i, rfl⟩ | ⟨k, rfl⟩ | ⟨h1, h2, _⟩
    · refine ⟨_, rfl, iteT ⟨_, rfl, _, rfl, _, _, rfl, rfl, _, rfl, ?_⟩⟩
      refine ite2 (fun z => ?_) (fun z => ?_)
      · refine ⟨_, rfl, _, _, rfl, rfl, ?_⟩
        have e : whole lo hi (.int i) = (decide (lo ≤ i) && decide (i ≤ hi)) := rfl
        rw [e, z, Bool.true_and] at q
        exact q
      · have e : whole lo hi (.int i) = (decide (lo ≤ i) && decide (i ≤ hi)) := rfl
        rw [e, Bool.eq_false_iff.mpr z, Bool.false_and] at q
        exact q
    · exact ⟨_, rfl, iteF q⟩
    · rw [(Th.not (K := K) (H := H) ⟨h1, h2⟩ lo hi).1] at q
      cases x with
      | int i => exact (h1 i rfl).elim
      | bl k => exact (h2 k rfl).elim
      | _ => exact ⟨_, rfl, iteF q⟩
abbrev s_is_day_set : Stmt := top 10
abbrev N_is_day_set : List Str := ["thing"]
theorem sc_is_day_set : FnScope N_is_day_set ["thing"] (defScope s_is_day_set) := ⟨rfl, rfl, rfl, by decide +kernel, rfl, by decide +kernel, by decide +kernel⟩
theorem ok_is_day_set {f fW : Addr} {fd fdW : FuncData} (F : Fun K "is_day_set" "is_day_set" s_is_day_set f fd) (T : BtY mg) (D_is_whole : Df K mg "is_whole" ["thing", "low", "high"] fW fdW) (G_is_whole : FnOk P w K mg base CX0 2 fW fdW ["thing", "low", "high"] (sp_whole K)) :
    FnOk P w K mg base CX0 3 f fd ["thing"] (sp_is_day_set K) := by
  obtain ⟨t, hT⟩ := T.hs
  refine F.ok sc_is_day_set (fun vs H Q E h => ?_) (fun cdv A outer s H vs Q E hr h => ?_)
  · obtain ⟨x, rfl, _⟩ := h
    rfl
  · obtain ⟨x, rfl, hx, q⟩ := h
    refine ⟨_, (pss_one (ps_ret (pe_call G_is_whole (hr.mono (by decide)) (by rfl) D_is_whole.g D_is_whole.kp D_is_whole.b .nil pass0 (pa_cons (pv 0) (pa_cons pe_int (pa_cons (pe_glob (v := .int 65535) rfl hT ⟨_, rfl⟩) pa_nil)))))), ?_⟩
    exact ⟨_, rfl, x, 0, 65535, rfl, hx, q⟩
end
end My
set_option Elab.async false
set_option maxRecDepth 100000
set_option maxHeartbeats 4000000
namespace My
open PySem L2
/-! ### sayings -/
def brk (w t : Nat) : Nat := w - (w &&& t)
theorem brk_cast (w t : Nat) : ((brk w t : Nat) : Int) = (w : Int) - ((w &&& t : Nat) : Int) := by
  have : w &&& t ≤ w := Nat.and_le_left
  unfold brk
  omega
theorem and_cast (w t : Nat) : Builtin.bitAnd (w : Int) (t : Int) = ((w &&& t : Nat) : Int) := by
  rw [PyProof.Rows.bitAnd_pp (Int.natCast_nonneg _) (Int.natCast_nonneg _), Int.toNat_natCast, Int.toNat_natCast]
theorem brk_and (w t : Nat) : Builtin.bitAnd (w : Int) (Builtin.bitNot (t : Int)) = ((brk w t : Nat) : Int) := by
  rw [PyProof.Rows.bitAnd_not, and_cast, brk_cast]
def sayFs (w t : Nat) (u : Bool) : List (Str × V) :=
  [("where", .int w), ("then", .int t), ("usual", .bl u), ("confirm", .int (w &&& t : Nat)), ("broken", .int (brk w t : Nat)),
   ("low", .int (if u then ((w &&& t : Nat) : Int) else ((brk w t : Nat) : Int))), ("high", .int (if u then ((brk w t : Nat) : Int) else ((w &&& t : Nat) : Int))), ("step", .int (if u then 1 else 0))]
def Say (C : Addr) (H : Hp) (a : Addr) (w t : Nat) (u : Bool) : Prop := ∃ dx, H a = some (.ins C dx (sayFs w t u)) ∧ 1 ≤ w ∧ w < 65536 ∧ t < 65536
theorem Say.same {C a : Addr} {H H' : Hp} {w t : Nat} {u : Bool} (h : Say C H a w t u) (s : Same H H') : Say C H' a w t u := by
  obtain ⟨dx, e, r⟩ := h
  exact ⟨dx, s _ _ e, r⟩
structure SayC (K : PySem.W.Frag) (C : Addr) : Prop where
  cl : Cls K C
  nW : NoAttr K C "where"
  nT : NoAttr K C "then"
  nU : NoAttr K C "usual"
  nC : NoAttr K C "confirm"
  nB : NoAttr K C "broken"
  nL : NoAttr K C "low"
  nH : NoAttr K C "high"
  nS : NoAttr K C "step"
/-- the first wrong argument -/
def sayWord (x y z : V) : Option Str := if whole 1 65535 x = false then some "where" else if whole 0 65535 y = false then some "then" else if isB z = false then some "usual" else none
/-- an error with its word is raised -/
def Raised (CB : Addr) (f : Str) (y : V) (E : XK) (H : Hp) : Prop := ∀ d H', H d = none → Same H H' → H' d = some (.xd [(f, y)]) → E (.ref CB) (some d) H'
def sp_init (K : PySem.W.Frag) (CB : Addr) : Sp := fun vs H Q E => ∃ (a C dx : Addr) (x y z : V), vs = [.ref a, x, y, z] ∧ H a = some (.ins C dx []) ∧ SayC K C ∧ Th K H x ∧ Th K H y ∧ Th K H z ∧
  (∀ s, sayWord x y z = some s → Raised CB "what" (.str s) E H) ∧
  (∀ (w t : Nat) (u : Bool), x = .int w → y = .int t → z = .bl u → 1 ≤ w → w < 65536 → t < 65536 → Q .non (upd H a (.ins C dx (sayFs w t u))))
section
variable {P : Program} {w : World} {K : PySem.W.Frag} {mg : Str → Option Value} {base : Heap}
abbrev s_NoDay_init : Stmt := inClass (top 2) 0
theorem sc_NoDay_init : FnScope ["self", "day"] ["self", "day"] (defScope s_NoDay_init) := ⟨rfl, rfl, rfl, by decide +kernel, rfl, by decide +kernel, by decide +kernel⟩
theorem ok_NoDay_init {f C : Addr} {fd : FuncData} (F : Fun K "__init__" "NoDay.__init__" s_NoDay_init f fd) (T : OexC K C) (no : PySem.W.findIn K (.ref C) "day" = some none) : FnOk P w K mg base CX0 2 f fd ["self", "day"] (sp_efld C "day") := by
  refine F.ok sc_NoDay_init (fun vs H Q E h => ?_) (fun cdv A outer s H vs Q E hr h => ?_)
  · obtain ⟨a, y, rfl, _⟩ := h
    rfl
  · obtain ⟨a, y, rfl, ha, q⟩ := h
    refine ⟨_, pss_one (ps_ost (pv 0) (pv 1)), ?_⟩
    exact ⟨_, rfl, _, rfl, a, C, rfl, T, no, .inl ⟨ha, q⟩⟩
abbrev s_BadSaying_init : Stmt := inClass (top 3) 0
theorem sc_BadSaying_init : FnScope ["self", "what"] ["self", "what"] (defScope s_BadSaying_init) := ⟨rfl, rfl, rfl, by decide +kernel, rfl, by decide +kernel, by decide +kernel⟩
theorem ok_BadSaying_init {f C : Addr} {fd : FuncData} (F : Fun K "__init__" "BadSaying.__init__" s_BadSaying_init f fd) (T : OexC K C) (no : PySem.W.findIn K (.ref C) "what" = some none) : FnOk P w K mg base CX0 2 f fd ["self", "what"] (sp_efld C "what") := by
  refine F.ok sc_BadSaying_init (fun vs H Q E h => ?_) (fun cdv A outer s H vs Q E hr h => ?_)
  · obtain ⟨a, y, rfl, _⟩ := h
    rfl
  · obtain ⟨a, y, rfl, ha, q⟩ := h
    refine ⟨_, pss_one (ps_ost (pv 0) (pv 1)), ?_⟩
    exact ⟨_, rfl, _, rfl, a, C, rfl, T, no, .inl ⟨ha, q⟩⟩
abbrev s_Saying_init : Stmt := inClass (top 12) 0
abbrev N_Saying_init : List Str := ["self", "where", "then", "usual"]
theorem sc_Saying_init : FnScope N_Saying_init ["self", "where", "then", "usual"] (defScope s_Saying_init) := ⟨rfl, rfl, rfl, by decide +kernel, rfl, by decide +kernel, by decide +kernel⟩
theorem ok_Saying_init {f fD CB fB : Addr} {fd fdD fdB : FuncData} (F : FunD K "__init__" "Saying.__init__" (defArgs s_Saying_init) (defBody s_Saying_init) (defScope s_Saying_init) [.bl true] [] f fd) (T : BtY mg)
    (D_is_day_set : Df K mg "is_day_set" ["thing"] fD fdD) (G_is_day_set : FnOk P w K mg base CX0 3 fD fdD ["thing"] (sp_is_day_set K)) (X : ErrF K mg "BadSaying" "what" CB fB fdB) (FB : Fun K "__init__" "BadSaying.__init__" s_BadSaying_init fB fdB) :
    FnOk P w K mg base (L2.CX P w) 4 f fd ["self", "where", "then", "usual"] (sp_init K CB) := by
  have GB : FnOk P w K mg base CX0 2 fB fdB ["self", "what"] (sp_efld CB "what") := ok_BadSaying_init FB X.oex X.no
  refine F.ok sc_Saying_init (fun vs H Q E h => ?_) (fun cdv A outer s H vs Q E hr h => ?_)
  · obtain ⟨a, C, dx, x, y, z, rfl, _⟩ := h
    rfl
  · obtain ⟨a, C, dx, x, y, z, rfl, ha, S, hx, hy, hz, qE, q⟩ := h
    refine ⟨_, (pss_cons (ps_if (PW.pt (pw_or (pt_not (pt_val (pe_call G_is_day_set (hr.mono (by decide)) (by rfl) D_is_day_set.g D_is_day_set.kp D_is_day_set.b .nil pass0 (pa_cons (pv 1) pa_nil)))) (pw_or1 (pt_cmpR op_eq (pv 1) pe_int (nomark _)))))
          (pss_one (ps_raise rfl (takes_of rfl rfl rfl rfl) (pmk_fld X.oex X.iC X.tI GB (hr.mono (by decide)) X.b (by rfl) X.g pe_str))) pss_nil)
        (pss_cons (ps_if (pt_not (pt_val (pe_call G_is_day_set (hr.mono (by decide)) (by rfl) D_is_day_set.g D_is_day_set.kp D_is_day_set.b .nil pass0 (pa_cons (pv 2) pa_nil))))
          (pss_one (ps_raise rfl (takes_of rfl rfl rfl rfl) (pmk_fld X.oex X.iC X.tI GB (hr.mono (by decide)) X.b (by rfl) X.g pe_str))) pss_nil)
        (pss_cons (ps_if (pt_not (pt_val (pe_callB call_isi (by rfl) T.isinstance (by decide +kernel) (pa_cons (pv 3) (pa_cons (pe_bltn (v := .ty "bool") (by rfl) T.bool (by decide +kernel) rfl) pa_nil)))))
          (pss_one (ps_raise rfl (takes_of rfl rfl rfl rfl) (pmk_fld X.oex X.iC X.tI GB (hr.mono (by decide)) X.b (by rfl) X.g pe_str))) pss_nil)
        (pss_cons (ps_fld (pv 0) (pv 1) rfl)
        (pss_cons (ps_fld (pv 0) (pv 2) rfl)
        (pss_cons (ps_fld (pv 0) (pv 3) rfl)
        (pss_cons (ps_fld (pv 0) (pe_op op_and (pv 1) (pv 2)) rfl)
        (pss_cons (ps_fld (pv 0) (pe_op op_and (pv 1) (pe_un un_inv (pv 2))) rfl)
        (pss_cons (ps_fld (pv 0) (pe_ifExp (pt_val (pv 3)) (pe_fld (pv 0) rfl) (pe_fld (pv 0) rfl)) rfl)
        (pss_cons (ps_fld (pv 0) (pe_ifExp (pt_val (pv 3)) (pe_fld (pv 0) rfl) (pe_fld (pv 0) rfl)) rfl)
        (pss_one (ps_fld (pv 0) (pe_ifExp (pt_val (pv 3)) pe_int pe_int) rfl)))))))))))), ?_⟩
    refine ⟨_, rfl, x, rfl, hx, _, rfl, ?_⟩
    cases hw : whole 0 65535 x with
    | false =>
      refine iteT ?_
      have e1 : whole 1 65535 x = false := by
        cases e : whole 1 65535 x with
        | false => rfl
        | true =>
          obtain ⟨i, rfl, h1, h2⟩ := whole_int e
          have h3 : whole 0 65535 (.int i) = (decide (0 ≤ i) && decide (i ≤ 65535)) := rfl
          rw [h3, Bool.and_eq_false_iff] at hw
          simp only [decide_eq_false_iff_not] at hw
          omega
      refine fun d H' h1 h2 h3 => qE _ ?_ d H' h1 h2 h3
      unfold sayWord
      rw [if_pos e1]
    | true =>
      obtain ⟨i, rfl, i0, i1⟩ := whole_int hw
      refine iteF ⟨_, rfl, rfl, _, rfl, ite2 (fun c => ?_) (fun c => ?_)⟩
      · have z' : V.int i = V.int 0 := of_decide_eq_true c
        injection z' with z'
        subst z'
        refine fun d H' h1 h2 h3 => qE _ ?_ d H' h1 h2 h3
        unfold sayWord
        rw [if_pos (show whole 1 65535 (.int 0) = false from by decide)]
      have ni : i ≠ 0 := fun e => c (by rw [e]; decide)
      obtain ⟨n, rfl⟩ := Int.eq_ofNat_of_zero_le i0
      have e1 : ¬ whole 1 65535 (.int (n : Int)) = false := by
        have h3 : whole 1 65535 (.int (n : Int)) = (decide (1 ≤ (n : Int)) && decide ((n : Int) ≤ 65535)) := rfl
        rw [h3]
        simp
        omega
      refine ⟨_, rfl, y, rfl, hy, _, rfl, ?_⟩
      cases hv : whole 0 65535 y with
      | false =>
        refine iteT fun d H' h1 h2 h3 => qE _ ?_ d H' h1 h2 h3
        unfold sayWord
        rw [if_neg e1, if_pos hv]
      | true =>
        obtain ⟨j, rfl, j0, j1⟩ := whole_int hv
        obtain ⟨m, rfl⟩ := Int.eq_ofNat_of_zero_le j0
        refine iteF ⟨_, rfl, ?_⟩
        dsimp only [tCons, tC, tNil]
        refine isi_bool hz ⟨_, rfl, ?_⟩
        cases hb : isB z with
        | false =>
          refine iteT fun d H' h1 h2 h3 => qE _ ?_ d H' h1 h2 h3
          unfold sayWord
          rw [if_neg e1, if_neg (by rw [hv]; decide), if_pos hb]
        | true =>
          obtain ⟨u, rfl⟩ := isB_bl hb
          refine iteF ?_
          have q' := q n m u rfl rfl rfl (by omega) (by omega) (by omega)
          refine ⟨_, rfl, _, rfl, a, C, dx, _, rfl, ha, S.cl, S.nW, by decide, ?_⟩
          refine ⟨_, rfl, _, rfl, a, C, dx, _, rfl, upd_same, S.cl, S.nT, by show (1 : Nat) < 1000; decide, ?_⟩
          refine ⟨_, rfl, _, rfl, a, C, dx, _, rfl, upd_same, S.cl, S.nU, by show (2 : Nat) < 1000; decide, ?_⟩
          refine ⟨_, rfl, _, rfl, _, _, rfl, rfl, _, rfl, a, C, dx, _, rfl, upd_same, S.cl, S.nC, by show (3 : Nat) < 1000; decide, ?_⟩
          refine ⟨_, rfl, _, rfl, _, rfl, _, _, rfl, rfl, _, rfl, a, C, dx, _, rfl, upd_same, S.cl, S.nB, by show (4 : Nat) < 1000; decide, ?_⟩
          unfold sayFs at q'
          rw [← and_cast, ← brk_and] at q'
          cases u with
          | true =>
            refine ⟨_, rfl, _, rfl, iteT ⟨_, rfl, a, C, dx, _, _, rfl, upd_same, S.cl, S.nC, rfl, _, rfl, a, C, dx, _, rfl, upd_same, S.cl, S.nL, by show (5 : Nat) < 1000; decide, ?_⟩⟩
            refine ⟨_, rfl, _, rfl, iteT ⟨_, rfl, a, C, dx, _, _, rfl, upd_same, S.cl, S.nB, rfl, _, rfl, a, C, dx, _, rfl, upd_same, S.cl, S.nH, by show (6 : Nat) < 1000; decide, ?_⟩⟩
            refine ⟨_, rfl, _, rfl, iteT ⟨_, rfl, a, C, dx, _, rfl, upd_same, S.cl, S.nS, by show (7 : Nat) < 1000; decide, ?_⟩⟩
            rw [upd_upd, upd_upd, upd_upd, upd_upd, upd_upd, upd_upd, upd_upd]
            exact q'
          | false =>
            refine ⟨_, rfl, _, rfl, iteF ⟨_, rfl, a, C, dx, _, _, rfl, upd_same, S.cl, S.nB, rfl, _, rfl, a, C, dx, _, rfl, upd_same, S.cl, S.nL, by show (5 : Nat) < 1000; decide, ?_⟩⟩
            refine ⟨_, rfl, _, rfl, iteF ⟨_, rfl, a, C, dx, _, _, rfl, upd_same, S.cl, S.nC, rfl, _, rfl, a, C, dx, _, rfl, upd_same, S.cl, S.nH, by show (6 : Nat) < 1000; decide, ?_⟩⟩
            refine ⟨_, rfl, _, rfl, iteF ⟨_, rfl, a, C, dx, _, rfl, upd_same, S.cl, S.nS, by show (7 : Nat) < 1000; decide, ?_⟩⟩
            rw [upd_upd, upd_upd, upd_upd, upd_upd, upd_upd, upd_upd, upd_upd]
            exact q'
end
end My
set_option Elab.async false
set_option maxRecDepth 100000
set_option maxHeartbeats 4000000
namespace My
open PySem L2 ClX
theorem TyOf.same {K : PySem.W.Frag} {H H' : Hp} {x : V} {t : Value} (h : TyOf K H x t) (s : Same H H') : TyOf K H' x t := by
  cases h with
  | non => exact .non
  | bl y => exact .bl y
  | int i => exact .int i
  | str y => exact .str y
  | flt y => exact .flt y
  | lst e => exact .lst (s _ _ e)
  | frz e => exact .frz (s _ _ e)
  | tup e => exact .tup (s _ _ e)
  | dK e => exact .dK (s _ _ e)
  | dT e => exact .dT (s _ _ e)
  | ins e cl ha hn htk hm => exact .ins (s _ _ e) cl ha hn htk hm
theorem TyX.same {K : PySem.W.Frag} {H H' : Hp} {x : V} {t : Value} (h : TyX K H x t) (s : Same H H') : TyX K H' x t := by
  cases h with
  | base b => exact .base (TyOf.same b s)
  | byt b => exact .byt b
  | set e => exact .set (s _ _ e)
  | kList e c => exact .kList e c
  | kTuple e c => exact .kTuple e c
  | kDict e c => exact .kDict e c
  | fTuple e => exact .fTuple (s _ _ e)
  | fDict e => exact .fDict (s _ _ e)
theorem Th.same {K : PySem.W.Frag} {H H' : Hp} {x : V} (h : Th K H x) (s : Same H H') : Th K H' x := by
  rcases h with h | h | ⟨h1, h2, t, ty, r⟩
  · exact .inl h
  · exact .inr (.inl h)
  · exact .inr (.inr ⟨h1, h2, t, TyX.same ty s, r⟩)
theorem Raised.same {CB : Addr} {f : Str} {y : V} {E : XK} {H H' : Hp} (h : Raised CB f y E H) (s : Same H H') : Raised CB f y E H' := fun d H2 e1 e2 e3 => h d H2 (s.free e1) (s.trans e2) e3
theorem same_two {H : Hp} {x dx : Addr} {o u : HO} (h1 : H x = none) (h2 : H dx = none) : Same H (upd (upd H dx o) x u) := fun a v e => by
  rw [upd_ne (ne_of_none e h1), upd_ne (ne_of_none e h2)]
  exact e
def verd (c b d : Nat) : Str := if c.testBit d = true then "confirmed" else if b.testBit d = true then "broken" else "silent"
def sp_verdict (K : PySem.W.Frag) (CN : Addr) : Sp := fun vs H Q E => ∃ (c b : Nat) (x : V), vs = [.int c, .int b, x] ∧ Th K H x ∧ (whole 0 15 x = false → Raised CN "day" x E H) ∧ (∀ d : Nat, x = .int d → d < 16 → Q (.str (verd c b d)) H)
def sp_on (K : PySem.W.Frag) (C CN : Addr) : Sp := fun vs H Q E => ∃ (a : Addr) (w t : Nat) (u : Bool) (x : V), vs = [.ref a, x] ∧ Say C H a w t u ∧ Th K H x ∧ (whole 0 15 x = false → Raised CN "day" x E H) ∧ (∀ d : Nat, x = .int d → d < 16 → Q (.str (verd (w &&& t) (brk w t) d)) H)
/-- a new saying -/
def NewSay (C : Addr) (w t : Nat) (u : Bool) (Q : VK) (H : Hp) : Prop := ∀ (a : Addr) (H' : Hp), H a = none → Same H H' → Say C H' a w t u → Q (.ref a) H'
def sp_contrary (C : Addr) : Sp := fun vs H Q _ => ∃ (a : Addr) (w t : Nat) (u : Bool), vs = [.ref a] ∧ Say C H a w t u ∧ NewSay C w t (!u) Q H
def sp_flipped (C : Addr) : Sp := fun vs H Q _ => ∃ (a : Addr) (w t : Nat) (u : Bool), vs = [.ref a] ∧ Say C H a w t u ∧ NewSay C w (brk w t) u Q H
def partsWord (x y z : V) : Option Str := if whole 0 65535 x = false then some "confirm" else if whole 0 65535 y = false then some "broken" else match x, y with
  | .int i, .int j => if Builtin.bitAnd i j ≠ 0 then some "overlap" else if i + j = 0 then some "where" else if isB z = false then some "usual" else none
  | _, _ => none
def sp_of_days (K : PySem.W.Frag) (C CB : Addr) : Sp := fun vs H Q E => ∃ x y z : V, vs = [.ref C, x, y, z] ∧ Th K H x ∧ Th K H y ∧ Th K H z ∧ (∀ s, partsWord x y z = some s → Raised CB "what" (.str s) E H) ∧
  (∀ (c b : Nat) (u : Bool), x = .int c → y = .int b → z = .bl u → c &&& b = 0 → partsWord x y z = none → NewSay C (c ||| b) c u Q H)
section
variable {P : Program} {w : World} {K : PySem.W.Frag} {mg : Str → Option Value} {base : Heap}
abbrev s_verdict_on : Stmt := top 11
abbrev N_verdict_on : List Str := ["confirm", "broken", "day"]
theorem sc_verdict_on : FnScope N_verdict_on ["confirm", "broken", "day"] (defScope s_verdict_on) := ⟨rfl, rfl, rfl, by decide +kernel, rfl, by decide +kernel, by decide +kernel⟩
theorem ok_verdict_on {f fW CN fN : Addr} {fd fdW fdN : FuncData} (F : Fun K "verdict_on" "verdict_on" s_verdict_on f fd) (T : BtY mg) (D_is_whole : Df K mg "is_whole" ["thing", "low", "high"] fW fdW) (G_is_whole : FnOk P w K mg base CX0 2 fW fdW ["thing", "low", "high"] (sp_whole K))
    (X : ErrF K mg "NoDay" "day" CN fN fdN) (FN : Fun K "__init__" "NoDay.__init__" s_NoDay_init fN fdN) : FnOk P w K mg base (L2.CX P w) 4 f fd ["confirm", "broken", "day"] (sp_verdict K CN) := by
  have GN : FnOk P w K mg base CX0 2 fN fdN ["self", "day"] (sp_efld CN "day") := ok_NoDay_init FN X.oex X.no
  obtain ⟨t, hT⟩ := T.hd
  refine F.okX sc_verdict_on (fun vs H Q E h => ?_) (fun cdv A outer s H vs Q E hr h => ?_)
  · obtain ⟨c, b, x, rfl, _⟩ := h
    rfl
  · obtain ⟨c, b, x, rfl, hx, qE, q⟩ := h
    refine ⟨_, (pss_cons (ps_if (pt_not (pt_val (pe_call G_is_whole (hr.mono (by decide)) (by rfl) D_is_whole.g D_is_whole.kp D_is_whole.b .nil pass0 (pa_cons (pv 2) (pa_cons pe_int (pa_cons (pe_glob (v := .int 15) rfl hT ⟨_, rfl⟩) pa_nil)))))) (pss_one (ps_raise rfl (takes_of rfl rfl rfl rfl) (pmk_fld X.oex X.iC X.tI GN (hr.mono (by decide)) X.b (by rfl) X.g (pv 2)))) pss_nil)
        (pss_cons (ps_if (pt_truth (pe_op op_and (pe_op op_shr (pv 0) (pv 2)) pe_int) (by intro _; rfl)) (pss_one (ps_ret pe_str)) pss_nil)
        (pss_cons (ps_if (pt_truth (pe_op op_and (pe_op op_shr (pv 1) (pv 2)) pe_int) (by intro _; rfl)) (pss_one (ps_ret pe_str)) pss_nil)
        (pss_one (ps_ret pe_str))))), ?_⟩
    refine ⟨_, rfl, x, 0, 15, rfl, hx, _, rfl, ?_⟩
    cases hw : whole 0 15 x with
    | false =>
      refine iteT ⟨_, rfl, fun d H' h1 h2 h3 => qE hw d H' h1 h2 h3⟩
    | true =>
      obtain ⟨i, rfl, i0, i1⟩ := whole_int hw
      obtain ⟨d, rfl⟩ := Int.eq_ofNat_of_zero_le i0
      refine iteF ?_
      have q' := q d rfl (by omega)
      unfold verd at q'
      refine ⟨_, rfl, _, rfl, _, _, rfl, rfl, (by show (0 : Int) ≤ (d : Int); omega), _, _, rfl, rfl, c.testBit d, ?_, ?_⟩
      · rw [← bit_test c d]
        rfl
      refine ite2 (fun z => ?_) (fun z => ?_)
      · rw [if_pos z] at q'
        exact q'
      rw [if_neg z] at q'
      refine ⟨_, rfl, _, rfl, _, _, rfl, rfl, (by show (0 : Int) ≤ (d : Int); omega), _, _, rfl, rfl, b.testBit d, ?_, ?_⟩
      · rw [← bit_test b d]
        rfl
      refine ite2 (fun z => ?_) (fun z => ?_)
      · rw [if_pos z] at q'
        exact q'
      · rw [if_neg z] at q'
        exact q'
abbrev s_Saying_on : Stmt := inClass (top 12) 4
theorem sc_Saying_on : FnScope ["self", "day"] ["self", "day"] (defScope s_Saying_on) := ⟨rfl, rfl, rfl, by decide +kernel, rfl, by decide +kernel, by decide +kernel⟩
theorem ok_Saying_on {C CN f fV : Addr} {fd fdV : FuncData} (F : Fun K "on" "Saying.on" s_Saying_on f fd) (S : SayC K C) (D_verdict_on : Df K mg "verdict_on" ["confirm", "broken", "day"] fV fdV) (G_verdict_on : FnOk P w K mg base (L2.CX P w) 4 fV fdV ["confirm", "broken", "day"] (sp_verdict K CN)) :
    FnOk P w K mg base (L2.CX P w) 5 f fd ["self", "day"] (sp_on K C CN) := by
  refine F.okX sc_Saying_on (fun vs H Q E h => ?_) (fun cdv A outer s H vs Q E hr h => ?_)
  · obtain ⟨a, w, t, u, x, rfl, _⟩ := h
    rfl
  · obtain ⟨a, w, t, u, x, rfl, ⟨dx, ha, _⟩, hx, qE, q⟩ := h
    refine ⟨_, (pss_one (ps_ret (pe_call G_verdict_on (hr.mono (by decide)) (by rfl) D_verdict_on.g D_verdict_on.kp D_verdict_on.b .nil (pass_of (E := E) (takes_of rfl rfl rfl rfl)) (pa_cons (pe_fld (pv 0) rfl) (pa_cons (pe_fld (pv 0) rfl) (pa_cons (pv 1) pa_nil)))))), ?_⟩
    refine ⟨_, rfl, a, C, dx, _, _, rfl, ha, S.cl, S.nC, rfl, ?_⟩
    refine ⟨_, rfl, a, C, dx, _, _, rfl, ha, S.cl, S.nB, rfl, ?_⟩
    exact ⟨_, rfl, _, _, x, rfl, hx, qE, q⟩
abbrev s_Saying_contrary : Stmt := inClass (top 12) 2
theorem sc_Saying_contrary : FnScope ["self"] ["self"] (defScope s_Saying_contrary) := ⟨rfl, rfl, rfl, by decide +kernel, rfl, by decide +kernel, by decide +kernel⟩
theorem ok_Saying_contrary {C CB f fI : Addr} {fd fdI : FuncData} (F : Fun K "contrary" "Saying.contrary" s_Saying_contrary f fd) (S : SayC K C) (gC : mg "Saying" = some (.ref C)) (M : Mk K C fI) (bI : Binds K fdI ["self", "where", "then", "usual"] [])
    (GI : FnOk P w K mg base (L2.CX P w) 4 fI fdI ["self", "where", "then", "usual"] (sp_init K CB)) : FnOk P w K mg base CX0 6 f fd ["self"] (sp_contrary C) := by
  refine F.ok sc_Saying_contrary (fun vs H Q E h => ?_) (fun cdv A outer s H vs Q E hr h => ?_)
  · obtain ⟨a, w, t, u, rfl, _⟩ := h
    rfl
  · obtain ⟨a, w, t, u, rfl, ⟨dx, ha, w0, w1, t1⟩, q⟩ := h
    refine ⟨_, (pss_one (ps_ret (pe_make M GI (hr.mono (by decide)) (by rfl) gC bI .nil passL (pa_cons (pe_fld (pv 0) rfl) (pa_cons (pe_fld (pv 0) rfl) (pa_cons (pe_not (pe_fld (pv 0) rfl)) pa_nil)))))), ?_⟩
    refine ⟨_, rfl, a, C, dx, _, _, rfl, ha, S.cl, S.nW, rfl, ?_⟩
    refine ⟨_, rfl, a, C, dx, _, _, rfl, ha, S.cl, S.nT, rfl, ?_⟩
    refine ⟨_, rfl, a, C, dx, _, _, rfl, ha, S.cl, S.nU, rfl, _, rfl, fun x d2 hx hd ne => ?_⟩
    refine ⟨x, C, d2, _, _, _, rfl, upd_same, S, .inl ⟨_, rfl⟩, .inl ⟨_, rfl⟩, .inr (.inl ⟨_, rfl⟩), fun s z => ?_, fun w' t' u' e1 e2 e3 _ _ _ => ?_⟩
    · exfalso
      unfold sayWord at z
      rw [if_neg (by show ¬ (decide (1 ≤ (w : Int)) && decide ((w : Int) ≤ 65535)) = false; simp; omega), if_neg (by show ¬ (decide (0 ≤ (t : Int)) && decide ((t : Int) ≤ 65535)) = false; simp; omega), if_neg (by show ¬ true = false; decide)] at z
      cases z
    · have e1' : (w : Int) = w' := by injection e1
      have e2' : (t : Int) = t' := by injection e2
      have e3' : (!u) = u' := by injection e3
      obtain rfl : w = w' := by omega
      obtain rfl : t = t' := by omega
      subst e3'
      refine ⟨rfl, q x _ hx ?_ ⟨d2, upd_same, w0, w1, t1⟩⟩
      rw [upd_upd]
      exact same_two hx hd
end
end My
set_option Elab.async false
set_option maxRecDepth 100000
set_option maxHeartbeats 4000000
namespace My
open PySem L2 ClX
theorem brk_le (w t : Nat) : brk w t ≤ w := by unfold brk; omega
theorem sayWord_ok {w t : Nat} {u : Bool} (w0 : 1 ≤ w) (w1 : w < 65536) (t1 : t < 65536) : sayWord (.int w) (.int t) (.bl u) = none := by
  unfold sayWord
  rw [if_neg (by show ¬ (decide (1 ≤ (w : Int)) && decide ((w : Int) ≤ 65535)) = false; simp; omega), if_neg (by show ¬ (decide (0 ≤ (t : Int)) && decide ((t : Int) ≤ 65535)) = false; simp; omega), if_neg (by show ¬ true = false; decide)]
/-- what __init__ is asked of a good saying -/
theorem init_ok {K : PySem.W.Frag} {C CB x d2 : Addr} {H : Hp} {w t : Nat} {u : Bool} {Q : VK} {E : XK} (S : SayC K C) (hx : H x = none) (hd : H d2 = none) (w0 : 1 ≤ w) (w1 : w < 65536) (t1 : t < 65536) (q : NewSay C w t u Q H) :
    sp_init K CB [.ref x, .int w, .int t, .bl u] (upd (upd H d2 (.own x)) x (.ins C d2 [])) (fun v H2 => v = .non ∧ Q (.ref x) H2) E := by
  refine ⟨x, C, d2, _, _, _, rfl, upd_same, S, .inl ⟨_, rfl⟩, .inl ⟨_, rfl⟩, .inr (.inl ⟨_, rfl⟩), fun s z => ?_, fun w' t' u' e1 e2 e3 _ _ _ => ?_⟩
  · rw [sayWord_ok w0 w1 t1] at z
    cases z
  · have e1' : (w : Int) = w' := by injection e1
    have e2' : (t : Int) = t' := by injection e2
    have e3' : u = u' := by injection e3
    obtain rfl : w = w' := by omega
    obtain rfl : t = t' := by omega
    subst e3'
    refine ⟨rfl, q x _ hx ?_ ⟨d2, upd_same, w0, w1, t1⟩⟩
    rw [upd_upd]
    exact same_two hx hd
theorem or_cast (w t : Nat) : Builtin.bitOr (w : Int) (t : Int) = ((w ||| t : Nat) : Int) := by
  rw [bitOr_nn (Int.natCast_nonneg _) (Int.natCast_nonneg _), Int.toNat_natCast, Int.toNat_natCast]
theorem or_zero {c b : Nat} : c ||| b = 0 ↔ c + b = 0 := by
  constructor
  · intro h
    have h1 : c ≤ c ||| b := Nat.left_le_or
    have h2 : b ≤ c ||| b := Nat.right_le_or
    omega
  · intro h
    have h1 : c = 0 := by omega
    have h2 : b = 0 := by omega
    subst h1 h2
    rfl
section
variable {P : Program} {w : World} {K : PySem.W.Frag} {mg : Str → Option Value} {base : Heap}
abbrev s_Saying_flipped : Stmt := inClass (top 12) 3
theorem sc_Saying_flipped : FnScope ["self"] ["self"] (defScope s_Saying_flipped) := ⟨rfl, rfl, rfl, by decide +kernel, rfl, by decide +kernel, by decide +kernel⟩
theorem ok_Saying_flipped {C CB f fI : Addr} {fd fdI : FuncData} (F : Fun K "flipped" "Saying.flipped" s_Saying_flipped f fd) (S : SayC K C) (gC : mg "Saying" = some (.ref C)) (M : Mk K C fI) (bI : Binds K fdI ["self", "where", "then", "usual"] [])
    (GI : FnOk P w K mg base (L2.CX P w) 4 fI fdI ["self", "where", "then", "usual"] (sp_init K CB)) : FnOk P w K mg base CX0 6 f fd ["self"] (sp_flipped C) := by
  refine F.ok sc_Saying_flipped (fun vs H Q E h => ?_) (fun cdv A outer s H vs Q E hr h => ?_)
  · obtain ⟨a, w, t, u, rfl, _⟩ := h
    rfl
  · obtain ⟨a, w, t, u, rfl, ⟨dx, ha, w0, w1, t1⟩, q⟩ := h
    refine ⟨_, (pss_one (ps_ret (pe_make M GI (hr.mono (by decide)) (by rfl) gC bI .nil passL (pa_cons (pe_fld (pv 0) rfl) (pa_cons (pe_fld (pv 0) rfl) (pa_cons (pe_fld (pv 0) rfl) pa_nil)))))), ?_⟩
    refine ⟨_, rfl, a, C, dx, _, _, rfl, ha, S.cl, S.nW, rfl, ?_⟩
    refine ⟨_, rfl, a, C, dx, _, _, rfl, ha, S.cl, S.nB, rfl, ?_⟩
    refine ⟨_, rfl, a, C, dx, _, _, rfl, ha, S.cl, S.nU, rfl, fun x d2 hx hd ne => ?_⟩
    exact init_ok S hx hd w0 w1 (Nat.lt_of_le_of_lt (brk_le w t) w1) q
abbrev s_Saying_of_days : Stmt := inClass (top 12) 1
abbrev N_Saying_of_days : List Str := ["cls", "confirm", "broken", "usual"]
theorem sc_Saying_of_days : FnScope N_Saying_of_days ["cls", "confirm", "broken", "usual"] (defScope s_Saying_of_days) := ⟨rfl, rfl, rfl, by decide +kernel, rfl, by decide +kernel, by decide +kernel⟩
theorem ok_Saying_of_days {C f fI fD CB fB : Addr} {fd fdI fdD fdB : FuncData} (F : FunD K "of_days" "Saying.of_days" (defArgs s_Saying_of_days) (defBody s_Saying_of_days) (defScope s_Saying_of_days) [.bl true] [] f fd)
    (D_is_day_set : Df K mg "is_day_set" ["thing"] fD fdD) (G_is_day_set : FnOk P w K mg base CX0 3 fD fdD ["thing"] (sp_is_day_set K)) (X : ErrF K mg "BadSaying" "what" CB fB fdB) (FB : Fun K "__init__" "BadSaying.__init__" s_BadSaying_init fB fdB)
    (S : SayC K C) (M : Mk K C fI) (bI : Binds K fdI ["self", "where", "then", "usual"] []) (GI : FnOk P w K mg base (L2.CX P w) 4 fI fdI ["self", "where", "then", "usual"] (sp_init K CB)) :
    FnOk P w K mg base (L2.CX P w) 6 f fd ["cls", "confirm", "broken", "usual"] (sp_of_days K C CB) := by
  have GB : FnOk P w K mg base CX0 2 fB fdB ["self", "what"] (sp_efld CB "what") := ok_BadSaying_init FB X.oex X.no
  refine F.ok sc_Saying_of_days (fun vs H Q E h => ?_) (fun cdv A outer s H vs Q E hr h => ?_)
  · obtain ⟨x, y, z, rfl, _⟩ := h
    rfl
  · obtain ⟨x, y, z, rfl, hx, hy, hz, qE, q⟩ := h
    refine ⟨_, (pss_cons (ps_if (pt_not (pt_val (pe_call G_is_day_set (hr.mono (by decide)) (by rfl) D_is_day_set.g D_is_day_set.kp D_is_day_set.b .nil pass0 (pa_cons (pv 1) pa_nil))))
          (pss_one (ps_raise rfl (takes_of rfl rfl rfl rfl) (pmk_fld X.oex X.iC X.tI GB (hr.mono (by decide)) X.b (by rfl) X.g pe_str))) pss_nil)
        (pss_cons (ps_if (pt_not (pt_val (pe_call G_is_day_set (hr.mono (by decide)) (by rfl) D_is_day_set.g D_is_day_set.kp D_is_day_set.b .nil pass0 (pa_cons (pv 2) pa_nil))))
          (pss_one (ps_raise rfl (takes_of rfl rfl rfl rfl) (pmk_fld X.oex X.iC X.tI GB (hr.mono (by decide)) X.b (by rfl) X.g pe_str))) pss_nil)
        (pss_cons (ps_if (pt_truth (pe_op op_and (pv 1) (pv 2)) (by intro _; rfl))
          (pss_one (ps_raise rfl (takes_of rfl rfl rfl rfl) (pmk_fld X.oex X.iC X.tI GB (hr.mono (by decide)) X.b (by rfl) X.g pe_str))) pss_nil)
        (pss_one (ps_ret (pe_makeL (i := 0) M GI (hr.mono (by decide)) rfl (Or.inl rfl) bI .nil (pass_of (E := E) (takes_of rfl rfl rfl rfl)) (pa_cons (pe_op op_or (pv 1) (pv 2)) (pa_cons (pv 1) (pa_cons (pv 3) pa_nil))))))))), ?_⟩
    refine ⟨_, rfl, x, rfl, hx, _, rfl, ?_⟩
    cases hw : whole 0 65535 x with
    | false =>
      refine iteT fun d H' h1 h2 h3 => qE _ ?_ d H' h1 h2 h3
      unfold partsWord
      rw [if_pos hw]
    | true =>
      obtain ⟨i, rfl, i0, i1⟩ := whole_int hw
      obtain ⟨c, rfl⟩ := Int.eq_ofNat_of_zero_le i0
      refine iteF ⟨_, rfl, y, rfl, hy, _, rfl, ?_⟩
      cases hv : whole 0 65535 y with
      | false =>
        refine iteT fun d H' h1 h2 h3 => qE _ ?_ d H' h1 h2 h3
        unfold partsWord
        rw [if_neg (by rw [hw]; decide), if_pos hv]
      | true =>
        obtain ⟨j, rfl, j0, j1⟩ := whole_int hv
        obtain ⟨b, rfl⟩ := Int.eq_ofNat_of_zero_le j0
        have ew : ∀ z, partsWord (.int (c : Int)) (.int (b : Int)) z = (if Builtin.bitAnd (c : Int) (b : Int) ≠ 0 then some ("overlap" : Str) else if (c : Int) + b = 0 then some ("where" : Str) else if isB z = false then some ("usual" : Str) else none : Option Str) := fun z => by
          unfold partsWord
          rw [if_neg (by rw [hw]; decide), if_neg (by rw [hv]; decide)]
        refine iteF ⟨_, rfl, _, rfl, _, _, rfl, rfl, (Builtin.bitAnd (c : Int) (b : Int) != 0), rfl, ?_⟩
        refine ite2 (fun e => ?_) (fun e => ?_)
        · have e' : Builtin.bitAnd (c : Int) (b : Int) ≠ 0 := bne_iff_ne.mp e
          refine fun d H' h1 h2 h3 => qE _ ?_ d H' h1 h2 h3
          rw [ew, if_pos e']
        have e' : ¬ Builtin.bitAnd (c : Int) (b : Int) ≠ 0 := fun k => e (bne_iff_ne.mpr k)
        have e2 : c &&& b = 0 := by
          have := and_cast c b
          omega
        have ew2 := ew z
        rw [if_neg e'] at ew2
        refine ⟨rfl, _, rfl, _, rfl, _, _, rfl, rfl, _, rfl, _, rfl, fun x d2 hx1 hd ne => ?_⟩
        have s2 := same_two (o := .own x) (u := .ins C d2 []) hx1 hd
        have hor : c ||| b < 2 ^ 16 := Nat.or_lt_two_pow (by omega) (by omega)
        refine ⟨x, C, d2, _, _, _, rfl, upd_same, S, .inl ⟨_, rfl⟩, .inl ⟨_, rfl⟩, hz.same s2, fun s zz => ?_, fun w' t' u' e1 e2' e3 _ _ _ => ?_⟩
        · refine Raised.same (qE s ?_) s2
          rw [ew2]
          have o1 : whole 1 65535 (.int (Builtin.bitOr (c : Int) (b : Int))) = decide (¬ (c : Int) + b = 0) := by
            show (decide (1 ≤ Builtin.bitOr (c : Int) (b : Int)) && decide (Builtin.bitOr (c : Int) (b : Int) ≤ 65535)) = _
            rw [or_cast]
            have := or_zero (c := c) (b := b)
            by_cases k0 : c + b = 0
            · rw [this.mpr k0]
              simp
              omega
            · have k1 : ¬ (c ||| b) = 0 := fun k => k0 (this.mp k)
              rw [decide_eq_true (by omega), decide_eq_true (by omega), decide_eq_true (by omega)]
              rfl
          unfold sayWord at zz
          rw [o1] at zz
          by_cases k0 : (c : Int) + b = 0
          · rw [if_pos (by simpa using k0)] at zz
            rw [if_pos k0]
            exact zz
          · rw [if_neg (by simpa using k0), if_neg (by rw [hw]; decide)] at zz
            rw [if_neg k0]
            exact zz
        · injection e1 with e1
          injection e2' with e2'
          have e1 : Builtin.bitOr (c : Int) (b : Int) = (w' : Int) := e1
          rw [or_cast] at e1
          obtain rfl : c ||| b = w' := by omega
          obtain rfl : c = t' := by omega
          have hpos : 1 ≤ c ||| b := by assumption
          have k0 : ¬ (c : Int) + b = 0 := fun k => by
            have := (or_zero (c := c) (b := b)).mpr (by omega)
            omega
          refine ⟨rfl, q c b u' rfl rfl e3 e2 ?_ x _ hx1 ?_ ⟨d2, upd_same, hpos, by omega, by omega⟩⟩
          · rw [ew2, if_neg k0, e3]
            rfl
          · rw [upd_upd]
            exact same_two hx1 hd
end
end My
set_option Elab.async false
set_option maxRecDepth 100000
set_option maxHeartbeats 4000000
namespace My
open PySem L2 ClX
/-- what isinstance and == ask of the class -/
structure SayK (K : PySem.W.Frag) (C g : Addr) : Prop where
  ha : PySem.W.findIn K (.ref C) "__class__" = some (some (.builtin "object.__class__"))
  hn : PySem.W.specialIn K (.builtin "object.__class__") "__get__" = some (some (.builtin "getset_descriptor.__get__"))
  tk : PySem.W.takesIn K (.builtin "object.__class__") = some true
  hm : PySem.W.mroIn K C (.type "object") = some true
  kt : PySem.W.kitOne K (.type "tuple") (.ref C) = some false
  nf : PySem.W.subIn K (.type "tuple") (.ref C) = some false
  eq : PySem.W.findIn K (.ref C) "__eq__" = some (some (.ref g))
  fe : PySem.W.isFn K (.ref g) = true
theorem say_ty {K : PySem.W.Frag} {C g a : Addr} {H : Hp} {w t : Nat} {u : Bool} (S : SayC K C) (S2 : SayK K C g) (h : Say C H a w t u) : TyX K H (.ref a) (.ref C) := by
  obtain ⟨dx, e, _⟩ := h
  exact .base (.ins e S.cl S2.ha S2.hn S2.tk S2.hm)
theorem kit_self (K : PySem.W.Frag) (C : Addr) : PySem.W.kitOne K (.ref C) (.ref C) = some true := by
  unfold PySem.W.kitOne
  rw [if_pos (by simp)]
def sp_eq (K : PySem.W.Frag) (C : Addr) : Sp := fun vs H Q _ => ∃ (a : Addr) (y : V) (w t : Nat) (u : Bool), vs = [.ref a, y] ∧ Say C H a w t u ∧
  ((∃ (b : Addr) (w' t' : Nat) (u' : Bool), y = .ref b ∧ Say C H b w' t' u' ∧ Q (.bl (decide (w = w' ∧ t = t' ∧ u = u'))) H) ∨ (∃ T, TyX K H y T ∧ PySem.W.kitOne K T (.ref C) = some false ∧ Q (.bl false) H))
section
variable {P : Program} {w : World} {K : PySem.W.Frag} {mg : Str → Option Value} {base : Heap}
abbrev s_Saying_eq : Stmt := inClass (top 12) 5
theorem sc_Saying_eq : FnScope ["self", "other"] ["self", "other"] (defScope s_Saying_eq) := ⟨rfl, rfl, rfl, by decide +kernel, rfl, by decide +kernel, by decide +kernel⟩
theorem ok_Saying_eq {C f : Addr} {fd : FuncData} (F : Fun K "__eq__" "Saying.__eq__" s_Saying_eq f fd) (T : BtY mg) (S : SayC K C) (S2 : SayK K C f) (gC : mg "Saying" = some (.ref C)) : FnOk P w K mg base CX0 2 f fd ["self", "other"] (sp_eq K C) := by
  refine F.ok sc_Saying_eq (fun vs H Q E h => ?_) (fun cdv A outer s H vs Q E hr h => ?_)
  · obtain ⟨a, y, w, t, u, rfl, _⟩ := h
    rfl
  · obtain ⟨a, y, w, t, u, rfl, hS, q⟩ := h
    have hS0 := hS
    obtain ⟨dx, ha, _⟩ := hS
    refine ⟨_, (pss_one (ps_ret (pe_and (pe_callB call_isi (by rfl) T.isinstance (by decide +kernel) (pa_cons (pv 1) (pa_cons (pe_glob (v := .ref C) (by rfl) gC rfl) pa_nil)))
      (pe_and (pe_cmpR op_eq (pe_fld (pv 0) rfl) (pe_fld (pv 1) rfl) (nomark _)) (pe_and (pe_cmpR op_eq (pe_fld (pv 0) rfl) (pe_fld (pv 1) rfl) (nomark _)) (pe_one (pe_cmpR op_eq (pe_fld (pv 0) rfl) (pe_fld (pv 1) rfl) (nomark _)))))))), ?_⟩
    rcases q with ⟨b, w', t', u', rfl, hS', q⟩ | ⟨T', ty, kt, q⟩
    · have ty := say_ty S S2 hS'
      obtain ⟨dy, hb, _⟩ := hS'
      refine ⟨_, rfl, _, _, _, _, true, rfl, .own C, ty, kit_self K C, _, rfl, iteT ?_⟩
      refine ⟨_, rfl, a, C, dx, _, _, rfl, ha, S.cl, S.nW, rfl, _, rfl, b, C, dy, _, _, rfl, hb, S.cl, S.nW, rfl, rfl, _, rfl, ?_⟩
      refine ite2 (fun e1 => ?_) (fun e1 => ?_)
      · have e1' : V.int w = V.int w' := of_decide_eq_true e1
        injection e1' with e1'
        have e1' : w = w' := by omega
        refine ⟨_, rfl, a, C, dx, _, _, rfl, ha, S.cl, S.nT, rfl, _, rfl, b, C, dy, _, _, rfl, hb, S.cl, S.nT, rfl, rfl, _, rfl, ?_⟩
        refine ite2 (fun e2 => ?_) (fun e2 => ?_)
        · have e2' : V.int t = V.int t' := of_decide_eq_true e2
          injection e2' with e2'
          have e2' : t = t' := by omega
          refine ⟨_, rfl, a, C, dx, _, _, rfl, ha, S.cl, S.nU, rfl, _, rfl, b, C, dy, _, _, rfl, hb, S.cl, S.nU, rfl, rfl, ?_⟩
          have e3 : decide (w = w' ∧ t = t' ∧ u = u') = decide (V.bl u = V.bl u') := decide_eq_decide.mpr ⟨fun z => by rw [z.2.2], fun z => ⟨e1', e2', by injection z⟩⟩
          rw [e3] at q
          exact q
        · have e3 : decide (w = w' ∧ t = t' ∧ u = u') = false := decide_eq_false fun z => e2 (decide_eq_true (by rw [z.2.1]))
          rw [e3] at q
          exact q
      · have e3 : decide (w = w' ∧ t = t' ∧ u = u') = false := decide_eq_false fun z => e1 (decide_eq_true (by rw [z.1]))
        rw [e3] at q
        exact q
    · exact ⟨_, rfl, _, _, _, _, false, rfl, .own C, ty, kt, _, rfl, iteF q⟩
end
end My
set_option Elab.async false
set_option maxRecDepth 100000
set_option maxHeartbeats 4000000
namespace My
open PySem L2 ClX
def rows (c b : Nat) (u : Bool) : List Int := if u = true then [(c : Int), b, c, b, 1] else [(c : Int), b, b, c, 0]
def wordV : Option Str → V
  | none => .non
  | some s => .str s
def sp_l_set : Sp := fun vs H Q _ => ∃ b : Addr, vs = [.ref b] ∧ Bag H b ∧ ∀ (n : Nat) (H' : Hp), n < 65536 → Bag H' b → But b H H' → Q (.int n) H'
def sp_l_rows (C : Addr) : Sp := fun vs H Q _ => ∃ (a : Addr) (w t : Nat) (u : Bool), vs = [.ref a] ∧ Say C H a w t u ∧ ∀ p, H p = none → Q (.ref p) (upd H p (.lst ((rows (w &&& t) (brk w t) u).map V.int)))
def sp_l_due : Sp := fun vs H Q _ => ∃ (w t : Nat) (u : Bool), vs = [.int w, .int t, .bl u] ∧ w < 65536 ∧ ∀ p H', H p = none → Same H H' → H' p = some (.lst ((rows (w &&& t) (brk w t) u).map V.int)) → Q (.ref p) H'
def sp_l_word (K : PySem.W.Frag) : Sp := fun vs H Q _ => ∃ x y z : V, vs = [x, y, z] ∧ Th K H x ∧ Th K H y ∧ Th K H z ∧ Q (wordV (sayWord x y z)) H
def sp_l_parts (K : PySem.W.Frag) : Sp := fun vs H Q _ => ∃ x y z : V, vs = [x, y, z] ∧ Th K H x ∧ Th K H y ∧ Th K H z ∧ Q (wordV (partsWord x y z)) H
structure BtR (mg : Str → Option Value) : Prop where
  range : mg "range" = none
  sum : mg "sum" = none
/-- a test of a step of the sum -/
theorem due_test (w t d : Nat) : decide (V.int (Builtin.bitAnd (Builtin.bitAnd ((w : Int) / 2 ^ (d : Int).toNat) ((t : Int) / 2 ^ (d : Int).toNat)) 1) = V.int 1) = (w &&& t).testBit d := by
  have e1 : ∀ n : Nat, ((n : Int) / 2 ^ (d : Int).toNat) = ((n >>> d : Nat) : Int) := fun n => by
    rw [Int.toNat_natCast, ← PySem.W.kbt_cast, Nat.shiftRight_eq_div_pow]
    rfl
  rw [e1, e1, and_cast, PyProof.Rows.bitAnd_m1, ← Nat.shiftRight_and_distrib, Nat.shiftRight_eq_div_pow, Nat.testBit_eq_decide_div_mod_eq]
  generalize (w &&& t) / 2 ^ d = k
  have h : ((k : Int) % 2 = 0 ∧ k % 2 = 0) ∨ ((k : Int) % 2 = 1 ∧ k % 2 = 1) := by omega
  rcases h with ⟨h1, h2⟩ | ⟨h1, h2⟩ <;> simp [h1, h2]
theorem and_lt {w t : Nat} (h : w < 65536) : w &&& t < 2 ^ 16 := Nat.lt_of_le_of_lt Nat.and_le_left h
section
variable {P : Program} {w : World} {K : PySem.W.Frag} {mg : Str → Option Value} {base : Heap}
abbrev s_l_set : Stmt := top 17
abbrev N_l_set : List Str := ["_law_bag_here", "_law_kind"]
theorem sc_l_set : FnScope N_l_set ["_law_bag_here"] (defScope s_l_set) := ⟨rfl, rfl, rfl, by decide +kernel, rfl, by decide +kernel, by decide +kernel⟩
theorem ok_l_set {f fT fO : Addr} {fd fdT fdO : FuncData} (F : Fun K "_law_set" "_law_set" s_l_set f fd) (D_l_take : Df K mg "_law_take" ["_law_bag_here", "_law_many"] fT fdT) (G_l_take : FnOk P w K mg base CX0 2 fT fdT ["_law_bag_here", "_law_many"] sp_l_take)
    (D_l_of : Df K mg "_law_of" ["_law_bag_here", "_law_some"] fO fdO) (G_l_of : FnOk P w K mg base CX0 3 fO fdO ["_law_bag_here", "_law_some"] sp_l_of) : FnOk P w K mg base CX0 4 f fd ["_law_bag_here"] sp_l_set := by
  refine F.ok sc_l_set (fun vs H Q E h => ?_) (fun cdv A outer s H vs Q E hr h => ?_)
  · obtain ⟨b, rfl, _⟩ := h
    rfl
  · obtain ⟨b, rfl, hB, q⟩ := h
    refine ⟨_, (pss_cons (ps_set (i := 1) sc_l_set.nd rfl (Or.inl rfl) (pe_call G_l_take (hr.mono (by decide)) (by rfl) D_l_take.g D_l_take.kp D_l_take.b .nil pass0 (pa_cons (pv 0) (pa_cons pe_int pa_nil))))
        (pss_cons (ps_if (pt_cmpR op_eq (pv 1) pe_int (nomark _)) (pss_one (ps_ret (pe_call G_l_of (hr.mono (by decide)) (by rfl) D_l_of.g D_l_of.kp D_l_of.b .nil pass0 (pa_cons (pv 0) (pa_cons (pe_lst (pa_cons pe_int (pa_cons pe_int (pa_cons pe_int (pa_cons pe_int (pa_cons pe_int pa_nil)))))) pa_nil))))) pss_nil)
        (pss_one (ps_ret (pe_call G_l_take (hr.mono (by decide)) (by rfl) D_l_take.g D_l_take.kp D_l_take.b .nil pass0 (pa_cons (pv 0) (pa_cons (pe_ix ix_list (pe_lst (pa_cons pe_int (pa_cons pe_int (pa_cons pe_int pa_nil)))) (pe_op op_sub (pv 1) pe_int) (fun _ _ => rfl)) pa_nil))))))), ?_⟩
    refine ⟨_, rfl, b, 4, rfl, hB, by decide, by decide, fun r H1 r0 r1 hB1 k1 => ?_⟩
    refine ⟨_, rfl, rfl, _, rfl, ite2 (fun z => ?_) (fun z => ?_)⟩
    · refine ⟨_, rfl, by decide, fun p hp => ?_⟩
      have np := hB1.ne hp
      refine ⟨b, p, _, rfl, hB1.same (same_new hp), np, upd_same, by decide, by decide, fun i v H2 hi hB2 k2 => ?_⟩
      obtain ⟨n, rfl, hn⟩ : ∃ n : Nat, v = .int n ∧ n < 65536 := by
        have hm := List.mem_of_getElem? hi
        simp only [List.mem_cons, List.not_mem_nil, or_false] at hm
        rcases hm with rfl | rfl | rfl | rfl | rfl
        · exact ⟨0, rfl, by decide⟩
        · exact ⟨1, rfl, by decide⟩
        · exact ⟨65535, rfl, by decide⟩
        · exact ⟨65534, rfl, by decide⟩
        · exact ⟨32768, rfl, by decide⟩
      exact q n H2 hn hB2 (k1.trans ((But.of (same_new hp)).trans k2))
    · have nz : r ≠ 0 := fun e => z (by rw [e]; decide)
      refine ⟨_, rfl, by decide, fun p hp => ?_⟩
      obtain ⟨m, rfl⟩ := Int.eq_ofNat_of_zero_le r0
      obtain ⟨j, rfl⟩ : ∃ j : Nat, m = j + 1 := ⟨m - 1, by omega⟩
      have hj : j < 3 := by omega
      obtain ⟨k, hk, hk0, hk1⟩ : ∃ k : Int, atI [V.int 16, V.int 256, V.int 65536] (((j + 1 : Nat) : Int) - 1) = some (.int k) ∧ 0 < k ∧ k ≤ 65536 := by
        have e : ((j + 1 : Nat) : Int) - 1 = (j : Int) := by omega
        rw [e]
        have : j = 0 ∨ j = 1 ∨ j = 2 := by omega
        rcases this with rfl | rfl | rfl
        · exact ⟨16, rfl, by decide, by decide⟩
        · exact ⟨256, rfl, by decide, by decide⟩
        · exact ⟨65536, rfl, by decide, by decide⟩
      refine ⟨_, rfl, _, _, rfl, rfl, p, _, _, _, rfl, rfl, SqL.of upd_same, hk, b, k, rfl, hB1.same (same_new hp), hk0, Int.lt_of_le_of_lt hk1 (by decide +kernel), fun r2 H2 h0 h1 hB2 k2 => ?_⟩
      obtain ⟨n, rfl⟩ := Int.eq_ofNat_of_zero_le h0
      exact q n H2 (by omega) hB2 (k1.trans ((But.of (same_new hp)).trans k2))
abbrev s_l_rows : Stmt := top 18
theorem sc_l_rows : FnScope ["_law_saying_here"] ["_law_saying_here"] (defScope s_l_rows) := ⟨rfl, rfl, rfl, by decide +kernel, rfl, by decide +kernel, by decide +kernel⟩
theorem ok_l_rows {C f : Addr} {fd : FuncData} (F : Fun K "_law_rows" "_law_rows" s_l_rows f fd) (S : SayC K C) : FnOk P w K mg base CX0 2 f fd ["_law_saying_here"] (sp_l_rows C) := by
  refine F.ok sc_l_rows (fun vs H Q E h => ?_) (fun cdv A outer s H vs Q E hr h => ?_)
  · obtain ⟨a, w, t, u, rfl, _⟩ := h
    rfl
  · obtain ⟨a, w, t, u, rfl, ⟨dx, ha, _⟩, q⟩ := h
    refine ⟨_, (pss_one (ps_ret (pe_lst (pa_cons (pe_fld (pv 0) rfl) (pa_cons (pe_fld (pv 0) rfl) (pa_cons (pe_fld (pv 0) rfl) (pa_cons (pe_fld (pv 0) rfl) (pa_cons (pe_fld (pv 0) rfl) pa_nil)))))))), ?_⟩
    cases u
    all_goals
      refine ⟨_, rfl, a, C, dx, _, _, rfl, ha, S.cl, S.nC, rfl, ?_⟩
      refine ⟨_, rfl, a, C, dx, _, _, rfl, ha, S.cl, S.nB, rfl, ?_⟩
      refine ⟨_, rfl, a, C, dx, _, _, rfl, ha, S.cl, S.nL, rfl, ?_⟩
      refine ⟨_, rfl, a, C, dx, _, _, rfl, ha, S.cl, S.nH, rfl, ?_⟩
      refine ⟨_, rfl, a, C, dx, _, _, rfl, ha, S.cl, S.nS, rfl, ?_⟩
      exact ⟨by show 5 ≤ sizeLine; decide, fun p hp => q p hp⟩
abbrev s_l_due : Stmt := top 19
abbrev N_l_due : List Str := ["_law_where", "_law_then", "_law_usual", "_law_confirm", "_law_broken", "_law_day"]
theorem sc_l_due : FnScope N_l_due ["_law_where", "_law_then", "_law_usual"] (defScope s_l_due) := ⟨rfl, rfl, rfl, by decide +kernel, rfl, by decide +kernel, by decide +kernel⟩
theorem ok_l_due {f : Addr} {fd : FuncData} (F : Fun K "_law_due" "_law_due" s_l_due f fd) (T : BtR mg) : FnOk P w K mg base CX0 2 f fd ["_law_where", "_law_then", "_law_usual"] sp_l_due := by
  refine F.ok sc_l_due (fun vs H Q E h => ?_) (fun cdv A outer s H vs Q E hr h => ?_)
  · obtain ⟨w, t, u, rfl, _⟩ := h
    rfl
  · obtain ⟨w, t, u, rfl, hw, q⟩ := h
    refine ⟨_, (pss_cons (ps_set (i := 3) sc_l_due.nd rfl (Or.inl rfl) (pe_callB (cr_sum rfl) (by rfl) T.sum (by decide +kernel) (pa_cons (pe_lc (own := [("_law_day", 5)]) (g := gName 5) rfl sc_l_due.nd (pi_range1 (by rfl) T.range (pa_cons pe_int pa_nil)) (blkOk_by (N := N_l_due) (sc := defScope s_l_due) (by decide +kernel)) (fun _ _ _ _ _ => (pg_name (i := 5) sc_l_due.nd rfl (Or.inl rfl))) (fun _ _ _ _ _ => (pts_one (pt_cmpR op_eq (pe_op op_and (pe_op op_and (pe_op op_shr (pv 0) (pv 5)) (pe_op op_shr (pv 1) (pv 5))) pe_int) pe_int (nomark _)))) (fun _ _ _ _ _ => (pe_op op_shl pe_int (pv 5)))) pa_nil)))
        (pss_cons (ps_set (i := 4) sc_l_due.nd rfl (Or.inl rfl) (pe_op op_sub (pv 0) (pv 3)))
        (pss_one (ps_ret (pe_ifExp (pt_val (pv 2)) (pe_lst (pa_cons (pv 3) (pa_cons (pv 4) (pa_cons (pv 3) (pa_cons (pv 4) (pa_cons pe_int pa_nil)))))) (pe_lst (pa_cons (pv 3) (pa_cons (pv 4) (pa_cons (pv 4) (pa_cons (pv 3) (pa_cons pe_int pa_nil))))))))))), ?_⟩
    refine ⟨_, rfl, by decide, by decide, fun D hD => ?_⟩
    refine lc_range (lo := 0) (n := 16) (fun i H2 => Same H H2 ∧ H2 D = some (.lst ((((List.range i).filter fun d => (w &&& t).testBit d).map fun d : Nat => (1 : Int) * 2 ^ (d : Int).toNat).map V.int))) ⟨same_new hD, upd_same⟩ ?_ ?_
    · rintro i H2 hi ⟨s2, h2⟩
      refine ⟨rfl, _, rfl, _, rfl, _, _, rfl, rfl, (by show (0 : Int) ≤ 0 + (i : Int); omega), _, rfl, _, rfl, _, _, rfl, rfl, (by show (0 : Int) ≤ 0 + (i : Int); omega), _, _, rfl, rfl, _, _, rfl, rfl, rfl, _, rfl, ?_⟩
      rw [Int.zero_add]
      refine ite2 (fun z => ?_) (fun z => ?_)
      · have z' : (w &&& t).testBit i = true := (due_test w t i).symm.trans z
        refine ⟨_, rfl, _, _, rfl, rfl, ⟨by omega, by omega, by decide⟩, _, h2, ?_, ?_, ?_⟩
        · rw [List.length_map, List.length_map]
          refine Nat.lt_of_le_of_lt (List.length_filter_le _ _) ?_
          rw [List.length_range]
          exact Nat.lt_of_lt_of_le hi (by decide)
        · intro a o e
          rw [upd_ne (ne_of_none e hD)]
          exact s2 a o e
        · rw [upd_same, filter_step, if_pos z', List.map_append, List.map_append]
          rfl
      · have z' : ¬ (w &&& t).testBit i = true := fun y => z ((due_test w t i).trans y)
        refine ⟨s2, ?_⟩
        rw [h2, filter_step, if_neg z', List.append_nil]
    · rintro H2 ⟨s2, h2⟩
      refine ⟨D, _, rfl, SqL.of h2, ?_⟩
      have es : (((List.range 16).filter fun d => (w &&& t).testBit d).map fun d : Nat => (1 : Int) * 2 ^ (d : Int).toNat).sum = ((w &&& t : Nat) : Int) := by
        rw [pow_sum, sum_setOf (List.Pairwise.filter _ List.nodup_range)]
        exact congrArg Nat.cast (setOf_days (and_lt hw))
      rw [es]
      refine ⟨_, rfl, _, rfl, _, _, rfl, rfl, ?_⟩
      refine ⟨_, rfl, _, rfl, ?_⟩
      have q' := fun p (hp : H2 p = none) => q p (upd H2 p (.lst ((rows (w &&& t) (brk w t) u).map V.int))) (s2.free hp) (s2.trans (same_new hp)) upd_same
      unfold rows at q'
      rw [brk_cast] at q'
      cases u with
      | true => exact iteT ⟨_, rfl, _, rfl, _, rfl, _, rfl, (by show 5 ≤ sizeLine; decide), fun p hp => q' p hp⟩
      | false => exact iteF ⟨_, rfl, _, rfl, _, rfl, _, rfl, (by show 5 ≤ sizeLine; decide), fun p hp => q' p hp⟩
end
end My
set_option Elab.async false
set_option maxRecDepth 100000
set_option maxHeartbeats 4000000
namespace My
open PySem L2 ClX
theorem ite_no {c : Prop} [Decidable c] {A B : Prop} (hc : ¬ c) (h : B) : if c then A else B := by rw [if_neg hc]; exact h
theorem ite_yes {c : Prop} [Decidable c] {A B : Prop} (hc : c) (h : A) : if c then A else B := by rw [if_pos hc]; exact h
theorem ite_dn {c : Prop} [Decidable c] {A B : Prop} (hc : ¬ c) (h : B) : if decide c = true then A else B := ite_no (by simpa using hc) h
theorem ite_dy {c : Prop} [Decidable c] {A B : Prop} (hc : c) (h : A) : if decide c = true then A else B := ite_yes (by simpa using hc) h
theorem ite_nd {c : Prop} [Decidable c] {A B : Prop} (hc : ¬ c) (h : A) : if (!decide c) = true then A else B := ite_yes (by simpa using hc) h
section
variable {P : Program} {w : World} {K : PySem.W.Frag} {mg : Str → Option Value} {base : Heap}
abbrev s_l_is_whole : Stmt := top 20
abbrev N_l_is_whole : List Str := ["_law_thing", "_law_low", "_law_high"]
theorem sc_l_is_whole : FnScope N_l_is_whole ["_law_thing", "_law_low", "_law_high"] (defScope s_l_is_whole) := ⟨rfl, rfl, rfl, by decide +kernel, rfl, by decide +kernel, by decide +kernel⟩
theorem ok_l_is_whole {f : Addr} {fd : FuncData} (F : Fun K "_law_is_whole" "_law_is_whole" s_l_is_whole f fd) (T : BtY mg) : FnOk P w K mg base CX0 2 f fd ["_law_thing", "_law_low", "_law_high"] (sp_whole K) := by
  refine F.ok sc_l_is_whole (fun vs H Q E h => ?_) (fun cdv A outer s H vs Q E hr h => ?_)
  · obtain ⟨x, lo, hi, rfl, _⟩ := h
    rfl
  · obtain ⟨x, lo, hi, rfl, hx, q⟩ := h
    refine ⟨_, (pss_one (ps_ret (pe_and (pe_callB call_isi (by rfl) T.isinstance (by decide +kernel) (pa_cons (pv 0) (pa_cons (pe_bltn (v := .ty "int") (by rfl) T.int (by decide +kernel) rfl) pa_nil))) (pe_and (pe_not (pe_callB call_isi (by rfl) T.isinstance (by decide +kernel) (pa_cons (pv 0) (pa_cons (pe_bltn (v := .ty "bool") (by rfl) T.bool (by decide +kernel) rfl) pa_nil)))) (pe_one (pe_chain op_le op_le (pv 1) (pv 0) (pv 2))))))), ?_⟩
    refine ⟨_, rfl, ?_⟩
    dsimp only [tCons, tC, tNil]
    refine isi_int hx ?_
    have hx2 := hx
    rcases hx with ⟨i, rfl⟩ | ⟨k, rfl⟩ | ⟨h1, h2, _⟩
    · refine ⟨_, rfl, iteT ⟨_, rfl, ?_⟩⟩
      dsimp only [tCons, tC, tNil]
      refine isi_bool hx2 ⟨_, rfl, _, rfl, iteT ⟨_, rfl, _, rfl, _, _, rfl, rfl, _, rfl, ?_⟩⟩
      refine ite2 (fun z => ?_) (fun z => ?_)
      · refine ⟨_, rfl, _, _, rfl, rfl, ?_⟩
        have e : whole lo hi (.int i) = (decide (lo ≤ i) && decide (i ≤ hi)) := rfl
        rw [e, z, Bool.true_and] at q
        exact q
      · have e : whole lo hi (.int i) = (decide (lo ≤ i) && decide (i ≤ hi)) := rfl
        rw [e, Bool.eq_false_iff.mpr z, Bool.false_and] at q
        exact q
    · refine ⟨_, rfl, iteT ⟨_, rfl, ?_⟩⟩
      dsimp only [tCons, tC, tNil]
      exact isi_bool hx2 ⟨_, rfl, _, rfl, iteF q⟩
    · rw [(Th.not (K := K) (H := H) ⟨h1, h2⟩ lo hi).1] at q
      cases x with
      | int i => exact (h1 i rfl).elim
      | bl k => exact (h2 k rfl).elim
      | _ => exact ⟨_, rfl, iteF q⟩
abbrev s_l_word : Stmt := top 21
abbrev N_l_word : List Str := ["_law_where", "_law_then", "_law_usual"]
theorem sc_l_word : FnScope N_l_word ["_law_where", "_law_then", "_law_usual"] (defScope s_l_word) := ⟨rfl, rfl, rfl, by decide +kernel, rfl, by decide +kernel, by decide +kernel⟩
theorem ok_l_word {f fW : Addr} {fd fdW : FuncData} (F : Fun K "_law_word" "_law_word" s_l_word f fd) (T : BtY mg) (D_l_is_whole : Df K mg "_law_is_whole" ["_law_thing", "_law_low", "_law_high"] fW fdW) (G_l_is_whole : FnOk P w K mg base CX0 2 fW fdW ["_law_thing", "_law_low", "_law_high"] (sp_whole K)) :
    FnOk P w K mg base CX0 3 f fd ["_law_where", "_law_then", "_law_usual"] (sp_l_word K) := by
  refine F.ok sc_l_word (fun vs H Q E h => ?_) (fun cdv A outer s H vs Q E hr h => ?_)
  · obtain ⟨x, y, z, rfl, _⟩ := h
    rfl
  · obtain ⟨x, y, z, rfl, hx, hy, hz, q⟩ := h
    refine ⟨_, (pss_cons (ps_if (pt_not (pt_val (pe_call G_l_is_whole (hr.mono (by decide)) (by rfl) D_l_is_whole.g D_l_is_whole.kp D_l_is_whole.b .nil pass0 (pa_cons (pv 0) (pa_cons pe_int (pa_cons pe_int pa_nil)))))) (pss_one (ps_ret pe_str)) pss_nil)
        (pss_cons (ps_if (pt_not (pt_val (pe_call G_l_is_whole (hr.mono (by decide)) (by rfl) D_l_is_whole.g D_l_is_whole.kp D_l_is_whole.b .nil pass0 (pa_cons (pv 1) (pa_cons pe_int (pa_cons pe_int pa_nil)))))) (pss_one (ps_ret pe_str)) pss_nil)
        (pss_one (ps_ret (pe_ifExp (pt_val (pe_callB call_isi (by rfl) T.isinstance (by decide +kernel) (pa_cons (pv 2) (pa_cons (pe_bltn (v := .ty "bool") (by rfl) T.bool (by decide +kernel) rfl) pa_nil)))) pe_non pe_str))))), ?_⟩
    unfold sayWord at q
    refine ⟨_, rfl, x, 1, 65535, rfl, hx, _, rfl, ?_⟩
    cases hw : whole 1 65535 x with
    | false =>
      rw [if_pos hw] at q
      exact iteT q
    | true =>
      rw [if_neg (by rw [hw]; decide)] at q
      refine iteF ⟨_, rfl, y, 0, 65535, rfl, hy, _, rfl, ?_⟩
      cases hv : whole 0 65535 y with
      | false =>
        rw [if_pos hv] at q
        exact iteT q
      | true =>
        rw [if_neg (by rw [hv]; decide)] at q
        refine iteF ⟨_, rfl, ?_⟩
        dsimp only [tCons, tC, tNil]
        refine isi_bool hz ⟨_, rfl, ?_⟩
        cases hb : isB z with
        | false =>
          rw [if_pos hb] at q
          exact iteF q
        | true =>
          rw [if_neg (by rw [hb]; decide)] at q
          exact iteT q
abbrev s_l_parts_word : Stmt := top 22
abbrev N_l_parts_word : List Str := ["_law_confirm", "_law_broken", "_law_usual"]
theorem sc_l_parts_word : FnScope N_l_parts_word ["_law_confirm", "_law_broken", "_law_usual"] (defScope s_l_parts_word) := ⟨rfl, rfl, rfl, by decide +kernel, rfl, by decide +kernel, by decide +kernel⟩
theorem ok_l_parts_word {f fW : Addr} {fd fdW : FuncData} (F : Fun K "_law_parts_word" "_law_parts_word" s_l_parts_word f fd) (T : BtY mg) (D_l_is_whole : Df K mg "_law_is_whole" ["_law_thing", "_law_low", "_law_high"] fW fdW) (G_l_is_whole : FnOk P w K mg base CX0 2 fW fdW ["_law_thing", "_law_low", "_law_high"] (sp_whole K)) :
    FnOk P w K mg base CX0 3 f fd ["_law_confirm", "_law_broken", "_law_usual"] (sp_l_parts K) := by
  refine F.ok sc_l_parts_word (fun vs H Q E h => ?_) (fun cdv A outer s H vs Q E hr h => ?_)
  · obtain ⟨x, y, z, rfl, _⟩ := h
    rfl
  · obtain ⟨x, y, z, rfl, hx, hy, hz, q⟩ := h
    refine ⟨_, (pss_cons (ps_if (pt_not (pt_val (pe_call G_l_is_whole (hr.mono (by decide)) (by rfl) D_l_is_whole.g D_l_is_whole.kp D_l_is_whole.b .nil pass0 (pa_cons (pv 0) (pa_cons pe_int (pa_cons pe_int pa_nil)))))) (pss_one (ps_ret pe_str)) pss_nil)
        (pss_cons (ps_if (pt_not (pt_val (pe_call G_l_is_whole (hr.mono (by decide)) (by rfl) D_l_is_whole.g D_l_is_whole.kp D_l_is_whole.b .nil pass0 (pa_cons (pv 1) (pa_cons pe_int (pa_cons pe_int pa_nil)))))) (pss_one (ps_ret pe_str)) pss_nil)
        (pss_cons (ps_if (pt_cmpR op_ne (pe_op op_and (pv 0) (pv 1)) pe_int (nomark _)) (pss_one (ps_ret pe_str)) pss_nil)
        (pss_cons (ps_if (pt_cmpR op_eq (pe_op op_add (pv 0) (pv 1)) pe_int (nomark _)) (pss_one (ps_ret pe_str)) pss_nil)
        (pss_one (ps_ret (pe_ifExp (pt_val (pe_callB call_isi (by rfl) T.isinstance (by decide +kernel) (pa_cons (pv 2) (pa_cons (pe_bltn (v := .ty "bool") (by rfl) T.bool (by decide +kernel) rfl) pa_nil)))) pe_non pe_str))))))), ?_⟩
    unfold partsWord at q
    refine ⟨_, rfl, x, 0, 65535, rfl, hx, _, rfl, ?_⟩
    cases hw : whole 0 65535 x with
    | false =>
      rw [if_pos hw] at q
      exact iteT q
    | true =>
      rw [if_neg (by rw [hw]; decide)] at q
      refine iteF ⟨_, rfl, y, 0, 65535, rfl, hy, _, rfl, ?_⟩
      cases hv : whole 0 65535 y with
      | false =>
        rw [if_pos hv] at q
        exact iteT q
      | true =>
        rw [if_neg (by rw [hv]; decide)] at q
        obtain ⟨i, rfl, i0, i1⟩ := whole_int hw
        obtain ⟨j, rfl, j0, j1⟩ := whole_int hv
        dsimp only at q
        refine iteF ⟨_, rfl, _, rfl, _, _, rfl, rfl, rfl, _, rfl, ?_⟩
        by_cases e1 : Builtin.bitAnd i j = 0
        · rw [if_neg (by simpa using e1)] at q
          refine iteNS (congrArg V.int e1) ⟨_, rfl, _, rfl, _, _, rfl, rfl, rfl, _, rfl, ?_⟩
          by_cases e2 : i + j = 0
          · rw [if_pos e2] at q
            exact ite_dy (congrArg V.int e2) q
          · rw [if_neg e2] at q
            refine ite_dn (fun z => e2 (by injection z)) ⟨_, rfl, ?_⟩
            dsimp only [tCons, tC, tNil]
            refine isi_bool hz ⟨_, rfl, ?_⟩
            cases hb : isB z with
            | false =>
              rw [if_pos hb] at q
              exact iteF q
            | true =>
              rw [if_neg (by rw [hb]; decide)] at q
              exact iteT q
        · rw [if_pos e1] at q
          exact ite_nd (fun z => e1 (by injection z)) q
end
end My
set_option Elab.async false
set_option maxRecDepth 100000
set_option maxHeartbeats 4000000
namespace My
open PySem L2 ClX
def sp_l_made (K : PySem.W.Frag) : Sp := fun vs H Q _ => ∃ (x y z : V) (p : Bool), vs = [x, y, z, .bl p] ∧ Th K H x ∧ Th K H y ∧ Th K H z ∧ ∀ H', Same H H' → Q (wordV (if p = true then partsWord x y z else sayWord x y z)) H'
section
variable {P : Program} {w : World} {K : PySem.W.Frag} {mg : Str → Option Value} {base : Heap}
abbrev s_l_made : Stmt := top 23
abbrev N_l_made : List Str := ["_law_one", "_law_other", "_law_usual", "_law_parts", "e"]
theorem sc_l_made : FnScope N_l_made ["_law_one", "_law_other", "_law_usual", "_law_parts"] (defScope s_l_made) := ⟨rfl, rfl, rfl, by decide +kernel, rfl, by decide +kernel, by decide +kernel⟩
theorem ok_l_made {C CB f fI fO pO fB : Addr} {fd fdI fdO fdB : FuncData} {mc : Value} (F : Fun K "_law_made" "_law_made" s_l_made f fd) (X : ErrF K mg "BadSaying" "what" CB fB fdB) (S : SayC K C) (gC : mg "Saying" = some (.ref C)) (M : Mk K C fI) (bI : Binds K fdI ["self", "where", "then", "usual"] [])
    (GI : FnOk P w K mg base (L2.CX P w) 4 fI fdI ["self", "where", "then", "usual"] (sp_init K CB)) (CR : CRead K C mc) (CM : CMet K C mc "of_days" pO fO) (bO : Binds K fdO ["cls", "confirm", "broken", "usual"] [])
    (GO : FnOk P w K mg base (L2.CX P w) 6 fO fdO ["cls", "confirm", "broken", "usual"] (sp_of_days K C CB)) : FnOk P w K mg base CX0 7 f fd ["_law_one", "_law_other", "_law_usual", "_law_parts"] (sp_l_made K) := by
  refine F.ok sc_l_made (fun vs H Q E h => ?_) (fun cdv A outer s H vs Q E hr h => ?_)
  · obtain ⟨x, y, z, p, rfl, _⟩ := h
    rfl
  · obtain ⟨x, y, z, p, rfl, hx, hy, hz, k⟩ := h
    refine ⟨_, (pss_cons (ps_try_as (i := 4) (tb := fun W => tIfS (tB (tVar 3)) (tDrop (tCMethS C (fun vs H Q E => sp_of_days K C CB (vs ++ []) H Q E) (WE W) (tC (.ref C)) (tCons (tVar 0) (tCons (tVar 1) (tCons (tVar 2) tNil))))) (tDrop (tMakeS C (sp_init K CB) [] (WE W) (tCons (tVar 0) (tCons (tVar 1) (tCons (tVar 2) tNil))))))
          (ts := fun a cls d => tRet (tXf a cls d CB "what" (tVar 4))) (Wout := fun _ _ _ _ => False) rfl rfl sc_l_made.nd rfl rfl ⟨rfl, by decide, Or.inl X.g⟩ takes0
          (fun W pn xe tk _ => pss_one (ps_if (pt_val (pv 3)) (pss_one (ps_expr (by exact (pe_cmethS (pe_glob (v := .ref C) (by rfl) gC rfl) CR CM (GO.raw bO .nil) (hr.mono (by decide)) (fun σ => passAt tk σ) (pa_cons (pv 0) (pa_cons (pv 1) (pa_cons (pv 2) pa_nil))))))) (pss_one (ps_expr (by exact (pe_makeS M GI (hr.mono (by decide)) rfl gC bI .nil (fun σ => passAt tk σ) (pa_cons (pv 0) (pa_cons (pv 1) (pa_cons (pv 2) pa_nil)))))))))
          (fun a oe cls d pn hz hf => pss_one (ps_ret (pe_xf X.xf X.no hz hf (pv 4)))))
        (pss_one (ps_ret pe_non))), ?_⟩
    refine ⟨_, rfl, _, rfl, ?_⟩
    cases p with
    | true =>
      refine iteT ⟨rfl, _, rfl, _, rfl, _, rfl, x, y, z, rfl, hx, hy, hz, fun s es d H' h1 h2 h3 => ?_, fun c b u e1 e2 e3 e4 e5 a H' h1 h2 h3 => ?_⟩
      · refine ⟨true, X.te, fun _ a ha => ?_, fun q => Bool.noConfusion q⟩
        refine ⟨_, rfl, rfl, rfl, d, _, _, rfl, h3, rfl, ?_⟩
        have k' := k H' h2
        rw [if_pos rfl, es] at k'
        exact k'
      · have k' := k H' h2
        rw [if_pos rfl, e5] at k'
        exact k'
    | false =>
      refine iteF ⟨_, rfl, _, rfl, _, rfl, fun a dx ha hd ne => ?_⟩
      have s2 := same_two (o := .own a) (u := .ins C dx []) ha hd
      refine ⟨a, C, dx, x, y, z, rfl, upd_same, S, hx.same s2, hy.same s2, hz.same s2, fun s es d H' h1 h2 h3 => ?_, fun w t u e1 e2 e3 w0 w1 t1 => ?_⟩
      · refine ⟨true, X.te, fun _ a ha => ?_, fun q => Bool.noConfusion q⟩
        refine ⟨_, rfl, rfl, rfl, d, _, _, rfl, h3, rfl, ?_⟩
        have k' := k H' (s2.trans h2)
        rw [if_neg (by decide), es] at k'
        exact k'
      · subst e1 e2 e3
        refine ⟨rfl, ?_⟩
        have s3 : Same H (upd (upd (upd H dx (.own a)) a (.ins C dx [])) a (.ins C dx (sayFs w t u))) := by
          rw [upd_upd]
          exact same_two ha hd
        have k' := k _ s3
        rw [if_neg (by decide), sayWord_ok w0 w1 t1] at k'
        exact k'
end
end My
set_option Elab.async false
set_option maxRecDepth 100000
set_option maxHeartbeats 4000000
namespace My
open PySem L2 ClX
theorem sum_split (f : Nat → Nat) (p : Nat → Bool) : ∀ ds : List Nat, ((ds.filter p).map f).sum + ((ds.filter fun d => !p d).map f).sum = (ds.map f).sum
  | [] => rfl
  | d :: r => by
    have ih := sum_split f p r
    by_cases h : p d = true
    · rw [List.filter_cons_of_pos h, List.filter_cons_of_neg (by simp [h]), List.map_cons, List.sum_cons, List.map_cons, List.sum_cons]
      omega
    · rw [List.filter_cons_of_neg h, List.filter_cons_of_pos (by simp [h]), List.map_cons, List.sum_cons, List.map_cons, List.sum_cons]
      omega
theorem brk_bit {w t : Nat} (hw : w < 2 ^ 16) (d : Nat) : (brk w t).testBit d = (w.testBit d && !t.testBit d) := by
  have e1 : ((daysOf w).filter fun d => t.testBit d) = daysOf (w &&& t) := by
    unfold daysOf
    rw [List.filter_filter]
    refine List.filter_congr fun d _ => ?_
    rw [Nat.testBit_and, Bool.and_comm]
  have s1 : ((daysOf w).map fun d => 2 ^ d).sum = w := by rw [sum_setOf (nodup_daysOf w), setOf_days hw]
  have s2 : (((daysOf w).filter fun d => t.testBit d).map fun d => 2 ^ d).sum = w &&& t := by
    rw [e1, sum_setOf (nodup_daysOf _), setOf_days (Nat.lt_of_le_of_lt Nat.and_le_left hw)]
  have s3 := sum_split (fun d => 2 ^ d) (fun d => t.testBit d) (daysOf w)
  have s4 : (((daysOf w).filter fun d => !t.testBit d).map fun d => 2 ^ d).sum = setOf ((daysOf w).filter fun d => !t.testBit d) := sum_setOf (List.Pairwise.filter _ (nodup_daysOf w))
  have s5 : brk w t = setOf ((daysOf w).filter fun d => !t.testBit d) := by
    unfold brk
    rw [← s4]
    omega
  rw [s5, setOf_bit]
  by_cases h : w.testBit d = true
  · have hd : d < 16 := by
      refine Nat.lt_of_not_le fun hd => ?_
      rw [Nat.testBit_lt_two_pow (Nat.lt_of_lt_of_le hw (Nat.pow_le_pow_right (by decide) hd))] at h
      cases h
    simp [mem_daysOf, h, hd]
  · simp [mem_daysOf, h]
theorem brk_not {w t : Nat} (hw : w < 2 ^ 16) {d : Nat} (h : (w &&& t).testBit d = true) : (brk w t).testBit d = false := by
  rw [brk_bit hw]
  rw [Nat.testBit_and] at h
  simp [(Bool.and_eq_true_iff.mp h).2]
end My
set_option Elab.async false
set_option maxRecDepth 100000
set_option maxHeartbeats 4000000
namespace My
open PySem L2 ClX
structure BtO (mg : Str → Option Value) : Prop where
  range : mg "range" = none
  repr : mg "repr" = none
theorem But.toSame {b : Addr} {H H1 H2 : Hp} (hb : H b = none) (s : Same H H1) (k : But b H1 H2) : Same H H2 := fun a o e => k a o (ne_of_none e hb) (s a o e)
theorem bit_one (n d : Nat) : decide (V.int (Builtin.bitAnd ((n : Int) / 2 ^ (d : Int).toNat) 1) = V.int 1) = n.testBit d := by
  have e1 : ((n : Int) / 2 ^ (d : Int).toNat) = ((n / 2 ^ d : Nat) : Int) := by
    rw [Int.toNat_natCast, ← PySem.W.kbt_cast]
    rfl
  rw [e1, PyProof.Rows.bitAnd_m1, Nat.testBit_eq_decide_div_mod_eq]
  generalize n / 2 ^ d = k
  have h : ((k : Int) % 2 = 0 ∧ k % 2 = 0) ∨ ((k : Int) % 2 = 1 ∧ k % 2 = 1) := by omega
  rcases h with ⟨h1, h2⟩ | ⟨h1, h2⟩ <;> simp [h1, h2]
theorem rows_two (c b : Nat) (u : Bool) : ∃ x y z : Int, rows c b u = [(c : Int), b, x, y, z] := by
  unfold rows
  cases u
  · exact ⟨_, _, _, rfl⟩
  · exact ⟨_, _, _, rfl⟩
def sp_l_on (C : Addr) : Sp := fun vs H Q _ => ∃ (a p : Addr) (w t : Nat) (u : Bool), vs = [.ref a, .ref p] ∧ Say C H a w t u ∧ H p = some (.lst ((rows (w &&& t) (brk w t) u).map V.int)) ∧ ∀ H', Same H H' → Q (.bl true) H'
def oddsD : PyData := .list [.int 16, .int (-1), .bool true, .none, .str "0", .tuple [.int 1], .list [.int 0]]
section
variable {P : Program} {w : World} {K : PySem.W.Frag} {mg : Str → Option Value} {base : Heap}
abbrev s_l_on : Stmt := top 24
abbrev N_l_on : List Str := ["_law_saying_here", "_law_due_here", "_law_day", "_law_word_here", "_law_told", "_law_odd", "e"]
theorem sc_l_on : FnScope N_l_on ["_law_saying_here", "_law_due_here"] (defScope s_l_on) := ⟨rfl, rfl, rfl, by decide +kernel, rfl, by decide +kernel, by decide +kernel⟩
theorem ok_l_on {C CN f fO fN : Addr} {fd fdO fdN : FuncData} (F : Fun K "_law_on" "_law_on" s_l_on f fd) (T : BtO mg) (X : ErrF K mg "NoDay" "day" CN fN fdN) (S : SayC K C) (MO : Meth K C "on" fO) (bO : Binds K fdO ["self", "day"] [])
    (GO : FnOk P w K mg base (L2.CX P w) 5 fO fdO ["self", "day"] (sp_on K C CN)) : FnG P w K mg base CX0 6 f fd ["_law_saying_here", "_law_due_here"] (sp_l_on C) := by
  refine My.Fun.okG F sc_l_on (fun vs H Q E h => ?_) (fun cdv A outer s H vs Q E hG hr h => ?_)
  · obtain ⟨a, p, w, t, u, rfl, _⟩ := h
    rfl
  · obtain ⟨a, p, w, t, u, rfl, hS, hp, k⟩ := h
    have hu : (A.deeper (PyProof.Rows.envOfC "_law_on" (defScope s_l_on) s.heap.objs.size f cdv)).units + 66 < cLine := by
      have := hr.un
      omega
    refine ⟨_, (pss_cons (ps_for PassesOwn.never rfl (pi_range1 (by rfl) T.range (pa_cons pe_int pa_nil)) (pg_name (i := 2) sc_l_on.nd rfl (Or.inl rfl))
          (pss_cons (ps_set (i := 3) sc_l_on.nd rfl (Or.inl rfl) pe_str)
          (pss_cons (ps_if (pt_cmpR op_eq (pe_op op_and (pe_op op_shr (pe_ix ix_list (pv 1) pe_int (fun _ _ => rfl)) (pv 2)) pe_int) pe_int (nomark _)) (pss_one (ps_set (i := 3) sc_l_on.nd rfl (Or.inl rfl) pe_str)) pss_nil)
          (pss_cons (ps_if (pt_cmpR op_eq (pe_op op_and (pe_op op_shr (pe_ix ix_list (pv 1) pe_int (fun _ _ => rfl)) (pv 2)) pe_int) pe_int (nomark _)) (pss_one (ps_set (i := 3) sc_l_on.nd rfl (Or.inl rfl) pe_str)) pss_nil)
          (pss_one (ps_if (pt_cmpR op_ne (pe_meth (pv 0) S.cl MO GO (hr.mono (by decide)) bO .nil passL (pa_cons (pv 2) pa_nil)) (pv 3) (nomark _)) (pss_one (ps_ret pe_bl)) pss_nil))))))
        (pss_cons (ps_set (i := 4) sc_l_on.nd rfl (Or.inl rfl) (pe_lst pa_nil))
        (pss_cons (ps_for PassesOwn.never rfl (pi_list (pe_lst (pa_cons pe_int (pa_cons (pe_un un_neg pe_int) (pa_cons pe_bl (pa_cons pe_non (pa_cons pe_str (pa_cons (pe_tup (pa_cons pe_int pa_nil)) (pa_cons (pe_lst (pa_cons pe_int pa_nil)) pa_nil))))))))) (pg_name (i := 5) sc_l_on.nd rfl (Or.inl rfl))
          (pss_one (ps_try_as (i := 6) (tb := fun W => tDrop (tMethS C "on" (sp_on K C CN) (WE W) (tVar 0) (tCons (tVar 5) tNil))) (ts := fun a cls d => tDrop (tBM K "list" rAppend (tVar 4) (tCons (tXf a cls d CN "day" (tVar 6)) tNil))) (Wout := fun _ _ _ _ => False) rfl rfl sc_l_on.nd rfl rfl ⟨rfl, by decide, Or.inl X.g⟩ takes0
            (fun W pn xe tk _ => pss_one (ps_expr (by exact (pe_methS (pv 0) S.cl MO GO (hr.mono (by decide)) bO (fun σ => passAt tk σ) (pa_cons (pv 5) pa_nil)))))
            (fun a oe cls d pn hz hf => pss_one (ps_expr (by exact (pe_bm PySem.F.plainAttrs_list PySem.F.slot_list_append PySem.F.type_list_append mt_append (pv 4) (pa_cons (pe_xf X.xf X.no hz hf (pv 6)) pa_nil))))))))
        (pss_one (ps_ret (pe_cmpR op_eq (pe_callB (call_reprD hG hu) (by rfl) T.repr (by decide +kernel) (pa_cons (pv 4) pa_nil)) (pe_callB (call_reprD hG hu) (by rfl) T.repr (by decide +kernel) (pa_cons (pe_lst (pa_cons pe_int (pa_cons (pe_un un_neg pe_int) (pa_cons pe_bl (pa_cons pe_non (pa_cons pe_str (pa_cons (pe_tup (pa_cons pe_int pa_nil)) (pa_cons (pe_lst (pa_cons pe_int pa_nil)) pa_nil)))))))) pa_nil)) (nomark _))))))), ?_⟩
    have hS0 := hS
    obtain ⟨dx, ha, w0, w1, t1⟩ := hS
    obtain ⟨r2, r3, r4, er⟩ := rows_two (w &&& t) (brk w t) u
    rw [er] at hp
    refine ⟨16, rfl, by decide, by decide, for_range (lo := 0) (n := 16) (fun i σ H' => Same H H' ∧ ∃ u2 u3, σ = [some (.ref a), some (.ref p), u2, u3, none, none, none]) ⟨Same.refl H, _, _, rfl⟩ ?_ ?_⟩
    · rintro i σ H' hi ⟨s1, u2, u3, rfl⟩
      have fin : ∀ (word : Str) (D : Ends), (verd (w &&& t) (brk w t) i = word) → D.nx [some (.ref a), some (.ref p), some (.int (i : Int)), some (.str word), none, none, none] H' →
          tIfS (tB (tOp rNe (tMeth C "on" (sp_on K C CN) [] E0 (tVar 0) (tCons (tVar 2) tNil)) (tVar 3))) (tRet (tC (.bl false))) tNext D [some (.ref a), some (.ref p), some (.int (i : Int)), some (.str word), none, none, none] H' := fun word D hw q => by
        refine ⟨_, rfl, a, dx, _, rfl, s1 _ _ ha, rfl, _, rfl, a, w, t, u, _, rfl, hS0.same s1, .inl ⟨_, rfl⟩, fun z => ?_, fun d e hd => ?_⟩
        · exfalso
          have z' : (decide (0 ≤ (i : Int)) && decide ((i : Int) ≤ 15)) = false := z
          simp at z'
          omega
        · have e' : (i : Int) = d := by injection e
          obtain rfl : i = d := by omega
          exact ⟨_, rfl, rfl, _, rfl, iteNS (congrArg V.str hw) q⟩
      refine ⟨_, rfl, _, _, _, _, rfl, rfl, SqL.of (s1 _ _ hp), rfl, _, rfl, _, _, rfl, rfl, (by show (0 : Int) ≤ 0 + (i : Int); omega), _, _, rfl, rfl, rfl, _, rfl, ?_⟩
      rw [Int.zero_add]
      have hw16 : w < 2 ^ 16 := w1
      refine ite2 (fun z1 => ?_) (fun z1 => ?_)
      · have b1 : (w &&& t).testBit i = true := (bit_one (w &&& t) i).symm.trans z1
        refine ⟨_, rfl, _, _, _, _, rfl, rfl, SqL.of (s1 _ _ hp), rfl, _, rfl, _, _, rfl, rfl, (by show (0 : Int) ≤ (i : Int); omega), _, _, rfl, rfl, rfl, _, rfl, ?_⟩
        refine ite2 (fun z2 => ?_) (fun z2 => ?_)
        · have b2 : (brk w t).testBit i = true := (bit_one (brk w t) i).symm.trans z2
          rw [brk_not hw16 b1] at b2
          cases b2
        · refine fin "confirmed" _ (by unfold verd; rw [if_pos b1]) ⟨s1, _, _, rfl⟩
      · have b1 : ¬ (w &&& t).testBit i = true := fun y => z1 ((bit_one (w &&& t) i).trans y)
        refine ⟨_, rfl, _, _, _, _, rfl, rfl, SqL.of (s1 _ _ hp), rfl, _, rfl, _, _, rfl, rfl, (by show (0 : Int) ≤ (i : Int); omega), _, _, rfl, rfl, rfl, _, rfl, ?_⟩
        refine ite2 (fun z2 => ?_) (fun z2 => ?_)
        · have b2 : (brk w t).testBit i = true := (bit_one (brk w t) i).symm.trans z2
          refine fin "broken" _ (by unfold verd; rw [if_neg b1, if_pos b2]) ⟨s1, _, _, rfl⟩
        · have b2 : ¬ (brk w t).testBit i = true := fun y => z2 ((bit_one (brk w t) i).trans y)
          refine fin "silent" _ (by unfold verd; rw [if_neg b1, if_neg b2]) ⟨s1, _, _, rfl⟩
    · rintro σ H1 ⟨s1, u2, u3, rfl⟩
      refine ⟨by show 0 ≤ sizeLine; decide, fun L hL => ?_⟩
      refine ⟨_, rfl, by show 1 ≤ sizeLine; decide, fun T1 hT1 => ⟨by show 1 ≤ sizeLine; decide, fun L0 hL0 => ⟨by show 7 ≤ sizeLine; decide, fun LL hLL => ?_⟩⟩⟩
      have g2 := same_new (o := .lst []) hL
      have g3 := same_new (o := .tup [V.int 1]) hT1
      have g4 := same_new (o := .lst [V.int 0]) hL0
      have g5 := same_new (o := .lst [V.int 16, V.int (-1), V.bl true, V.non, V.str "0", V.ref T1, V.ref L0]) hLL
      have f1 := g5 _ _ (g4 _ _ (g3 _ _ (upd_same (H := H1) (a := L) (o := .lst []))))
      have f2 := g5 _ _ (g4 _ _ (upd_same (H := upd H1 L (.lst [])) (a := T1) (o := .tup [V.int 1])))
      have f3 := g5 _ _ (upd_same (H := upd (upd H1 L (.lst [])) T1 (.tup [V.int 1])) (a := L0) (o := .lst [V.int 0]))
      have f4 := upd_same (H := upd (upd (upd H1 L (.lst [])) T1 (.tup [V.int 1])) L0 (.lst [V.int 0])) (a := LL) (o := .lst [V.int 16, V.int (-1), V.bl true, V.non, V.str "0", V.ref T1, V.ref L0])
      have s5 := s1.trans (g2.trans (g3.trans (g4.trans g5)))
      have nL := s1.free hL
      have s5L : But L _ _ := But.of (Same.refl (upd (upd (upd (upd H1 L (.lst [])) T1 (.tup [V.int 1])) L0 (.lst [V.int 0])) LL (.lst [V.int 16, V.int (-1), V.bl true, V.non, V.str "0", V.ref T1, V.ref L0])))
      have a5 := s5 _ _ ha
      generalize e5 : (upd (upd (upd (upd H1 L (.lst [])) T1 (.tup [V.int 1])) L0 (.lst [V.int 0])) LL (.lst [V.int 16, V.int (-1), V.bl true, V.non, V.str "0", V.ref T1, V.ref L0])) = H5 at f1 f2 f3 f4 s5 s5L a5
      have n2 : T1 ≠ L := fun e => by
        rw [e, f1] at f2
        cases f2
      have n3 : L0 ≠ L := fun e => by
        rw [e, f1] at f3
        cases f3
      have n4 : LL ≠ L := fun e => by
        rw [e, f1] at f4
        cases f4
      have n5 : a ≠ L := ne_of_none (s1 _ _ ha) hL
      refine ⟨LL, rfl, ⟨_, SqL.of f4⟩, for_list (K := K) (a := LL) (g := gName 5) (tb := fun D σ H => tDrop (tMethS C "on" (sp_on K C CN) (WE (wAs K (.ref CN) 6 (fun a cls d => tDrop (tBM K "list" rAppend (tVar 4) (tCons (tXf a cls d CN "day" (tVar 6)) tNil))) (fun _ _ _ _ => False) D)) (tVar 0) (tCons (tVar 5) tNil)) D σ H) (xs := [V.int 16, V.int (-1), V.bl true, V.non, V.str "0", V.ref T1, V.ref L0])
        (fun i σ H' => But L H5 H' ∧ H' L = some (.lst ([V.int 16, V.int (-1), V.bl true, V.non, V.str "0", V.ref T1, V.ref L0].take i)) ∧ ∃ u2 u3 u5 u6, σ = [some (.ref a), some (.ref p), u2, u3, some (.ref L), u5, u6]) ?_ (fun i σ H' _ h => SqL.of (h.1 _ _ n4 f4)) ?_ ?_⟩
      · exact ⟨But.refl L _, f1, _, _, _, _, rfl⟩
      · rintro i x σ H' hi ⟨kb, hL', u2, u3, u5, u6, rfl⟩
        have hx : Th K H' x ∧ whole 0 15 x = false := by
          have hm := List.mem_of_getElem? hi
          simp only [List.mem_cons, List.not_mem_nil, or_false] at hm
          rcases hm with rfl | rfl | rfl | rfl | rfl | rfl | rfl
          · exact ⟨.inl ⟨_, rfl⟩, by decide⟩
          · exact ⟨.inl ⟨_, rfl⟩, by decide⟩
          · exact ⟨.inr (.inl ⟨_, rfl⟩), by decide⟩
          · exact ⟨.inr (.inr ⟨fun _ => V.noConfusion, fun _ => V.noConfusion, _, .base .non, by decide +kernel, by decide +kernel⟩), by decide⟩
          · exact ⟨.inr (.inr ⟨fun _ => V.noConfusion, fun _ => V.noConfusion, _, .base (.str _), by decide +kernel, by decide +kernel⟩), by decide⟩
          · exact ⟨.inr (.inr ⟨fun _ => V.noConfusion, fun _ => V.noConfusion, _, .base (.tup (kb _ _ n2 f2)), by decide +kernel, by decide +kernel⟩), rfl⟩
          · exact ⟨.inr (.inr ⟨fun _ => V.noConfusion, fun _ => V.noConfusion, _, .base (.lst (kb _ _ n3 f3)), by decide +kernel, by decide +kernel⟩), rfl⟩
        have a' := kb _ _ n5 a5
        refine ⟨_, rfl, a, dx, _, rfl, a', rfl, _, rfl, a, w, t, u, x, rfl, ⟨dx, a', w0, w1, t1⟩, hx.1, fun _ d H2 h1 h2 h3 => ?_, fun d e hd => ?_⟩
        · refine ⟨true, X.te, fun _ ae hae => ?_, fun q => Bool.noConfusion q⟩
          refine ⟨_, rfl, .inl ⟨rfl, _, SqL.of (h2 _ _ hL')⟩, _, rfl, rfl, rfl, d, _, _, rfl, h3, rfl, L, _, _, rfl, rfl, h2 _ _ hL', ?_, ?_⟩
          · rw [List.length_take]
            exact Nat.lt_of_le_of_lt (Nat.min_le_right _ _) (by show 7 < sizeLine; decide)
          · refine ⟨fun b o nb eb => ?_, ?_, u2, u3, _, _, rfl⟩
            · rw [upd_ne nb]
              exact h2 _ _ (kb _ _ nb eb)
            · rw [upd_same, List.take_add_one, hi]
              rfl
        · exfalso
          have hw := hx.2
          rw [e] at hw
          have hw' : (decide (0 ≤ (d : Int)) && decide ((d : Int) ≤ 15)) = false := hw
          simp at hw'
          omega
      · rintro σ H2 ⟨kb, hL', u2, u3, u5, u6, rfl⟩
        have d2 := kb _ _ n2 f2
        have d3 := kb _ _ n3 f3
        refine ⟨_, rfl, L, oddsD, rfl, .lst (SqL.of hL') (.cons (.int 16) (.cons (.int (-1)) (.cons (.bl true) (.cons .non (.cons (.str _) (.cons (.tup (SqT.of d2) (.cons (.int 1) .nil)) (.cons (.lst (SqL.of d3) (.cons (.int 0) .nil)) .nil))))))), by decide +kernel, by decide +kernel, by decide +kernel, ?_⟩
        refine ⟨_, rfl, by show 1 ≤ sizeLine; decide, fun T2 hT2 => ⟨by show 1 ≤ sizeLine; decide, fun L2 hL2 => ⟨by show 7 ≤ sizeLine; decide, fun L3 hL3 => ?_⟩⟩⟩
        have g3 := same_new (o := .tup [V.int 1]) hT2
        have g4 := same_new (o := .lst [V.int 0]) hL2
        have g5 := same_new (o := .lst [V.int 16, V.int (-1), V.bl true, V.non, V.str "0", V.ref T2, V.ref L2]) hL3
        have c2 := g5 _ _ (g4 _ _ (upd_same (H := H2) (a := T2) (o := .tup [V.int 1])))
        have c3 := g5 _ _ (upd_same (H := upd H2 T2 (.tup [V.int 1])) (a := L2) (o := .lst [V.int 0]))
        have c4 := upd_same (H := upd (upd H2 T2 (.tup [V.int 1])) L2 (.lst [V.int 0])) (a := L3) (o := .lst [V.int 16, V.int (-1), V.bl true, V.non, V.str "0", V.ref T2, V.ref L2])
        refine ⟨L3, oddsD, rfl, .lst (SqL.of c4) (.cons (.int 16) (.cons (.int (-1)) (.cons (.bl true) (.cons .non (.cons (.str _) (.cons (.tup (SqT.of c2) (.cons (.int 1) .nil)) (.cons (.lst (SqL.of c3) (.cons (.int 0) .nil)) .nil))))))), by decide +kernel, by decide +kernel, by decide +kernel, rfl, ?_⟩
        have k' := k _ ((But.toSame nL s5 kb).trans (g3.trans (g4.trans g5)))
        have eT : true = decide (V.str oddsD.shown = V.str oddsD.shown) := (decide_eq_true rfl).symm
        exact eT ▸ k'
end
end My
set_option Elab.async false
set_option maxRecDepth 100000
set_option maxHeartbeats 4000000
namespace My
open PySem L2 ClX
theorem disj {w t : Nat} (hw : w < 2 ^ 16) : (w &&& t) &&& brk w t = 0 := by
  refine Nat.eq_of_testBit_eq fun i => ?_
  rw [Nat.testBit_and, brk_bit hw, Nat.testBit_and, Nat.zero_testBit]
  cases w.testBit i <;> cases t.testBit i <;> rfl
theorem both {w t : Nat} (hw : w < 2 ^ 16) : (w &&& t) ||| brk w t = w := by
  refine Nat.eq_of_testBit_eq fun i => ?_
  rw [Nat.testBit_or, brk_bit hw, Nat.testBit_and]
  cases w.testBit i <;> cases t.testBit i <;> rfl
theorem and_brk {w t : Nat} (hw : w < 2 ^ 16) : w &&& brk w t = brk w t := by
  refine Nat.eq_of_testBit_eq fun i => ?_
  rw [Nat.testBit_and, brk_bit hw]
  cases w.testBit i <;> cases t.testBit i <;> rfl
theorem and_and (w t : Nat) : w &&& (w &&& t) = w &&& t := by
  rw [← Nat.and_assoc, Nat.and_self]
theorem brk_brk {w t : Nat} (hw : w < 2 ^ 16) : brk w (brk w t) = w &&& t := by
  have h : w &&& t ≤ w := Nat.and_le_left
  show w - (w &&& brk w t) = _
  rw [and_brk hw]
  unfold brk
  omega
theorem brk_con (w t : Nat) : brk w (w &&& t) = brk w t := by
  unfold brk
  rw [and_and]
theorem xor_bit (t i : Nat) : (t ^^^ 32768).testBit i = (t.testBit i ^^ decide (i = 15)) := by
  rw [Nat.testBit_xor, show (32768 : Nat) = 2 ^ 15 from rfl, Nat.testBit_two_pow]
  congr 1
  exact decide_eq_decide.mpr eq_comm
theorem wider_iff {w t : Nat} (hw : w < 2 ^ 16) : w &&& (t ^^^ 32768) = w &&& t ↔ w < 32768 := by
  constructor
  · intro h
    have h1 : (w &&& (t ^^^ 32768)).testBit 15 = (w &&& t).testBit 15 := by rw [h]
    rw [Nat.testBit_and, Nat.testBit_and, xor_bit] at h1
    have h2 : w.testBit 15 = false := by
      cases e : w.testBit 15 with
      | false => rfl
      | true =>
        rw [e] at h1
        cases e2 : t.testBit 15 <;> rw [e2] at h1 <;> cases h1
    refine Nat.lt_pow_two_of_testBit (n := 15) _ fun i hi => ?_
    by_cases e : i = 15
    · rw [e]; exact h2
    · exact Nat.testBit_lt_two_pow (Nat.lt_of_lt_of_le hw (Nat.pow_le_pow_right (by decide) (by omega)))
  · intro h
    refine Nat.eq_of_testBit_eq fun i => ?_
    rw [Nat.testBit_and, Nat.testBit_and, xor_bit]
    by_cases e : i = 15
    · have : w.testBit i = false := by rw [e]; exact Nat.testBit_lt_two_pow h
      rw [this]; rfl
    · rw [decide_eq_false e, Bool.xor_false]
theorem xor_ne (t : Nat) : t ^^^ 32768 ≠ t := fun h => by
  have h1 : (t ^^^ 32768).testBit 15 = t.testBit 15 := by rw [h]
  rw [xor_bit] at h1
  cases e : t.testBit 15 <;> rw [e] at h1 <;> cases h1
theorem xor_lt {t : Nat} (h : t < 65536) : t ^^^ 32768 < 65536 := Nat.xor_lt_two_pow (n := 16) h (by decide)
theorem rows_inj {c b c' b' : Nat} {u : Bool} : rows c b u = rows c' b' u ↔ c = c' ∧ b = b' := by
  unfold rows
  cases u <;> simp <;> omega
/-- rows of the wider saying -/
theorem wider_rows {w t : Nat} {u : Bool} (hw : w < 2 ^ 16) : decide (rows (w &&& (t ^^^ 32768)) (brk w (t ^^^ 32768)) u = rows (w &&& t) (brk w t) u) = decide (w < 32768) := by
  refine decide_eq_decide.mpr ?_
  rw [rows_inj, ← wider_iff (t := t) hw]
  constructor
  · exact fun h => h.1
  · intro h
    refine ⟨h, ?_⟩
    unfold brk
    rw [h]
theorem parts_ok {c b : Nat} {u : Bool} (hc : c < 65536) (hb : b < 65536) (e : c &&& b = 0) (h : 1 ≤ c ||| b) : partsWord (.int c) (.int b) (.bl u) = none := by
  have h1 : ¬ whole 0 65535 (.int (c : Int)) = false := by
    show ¬ (decide (0 ≤ (c : Int)) && decide ((c : Int) ≤ 65535)) = false
    simp; omega
  have h2 : ¬ whole 0 65535 (.int (b : Int)) = false := by
    show ¬ (decide (0 ≤ (b : Int)) && decide ((b : Int) ≤ 65535)) = false
    simp; omega
  have h3 : ¬ Builtin.bitAnd (c : Int) (b : Int) ≠ 0 := by rw [and_cast, e]; decide
  have h4 : ¬ (c : Int) + b = 0 := fun k => by
    have := (or_zero (c := c) (b := b)).mpr (by omega)
    omega
  unfold partsWord
  rw [if_neg h1, if_neg h2]
  dsimp only
  rw [if_neg h3, if_neg h4]
  rfl
theorem xor_cast (w t : Nat) : Builtin.bitXor (w : Int) (t : Int) = ((w ^^^ t : Nat) : Int) := by
  rw [Bits.bitXor_pp (Int.natCast_nonneg _) (Int.natCast_nonneg _), Int.toNat_natCast, Int.toNat_natCast]
/-- what __init__ is asked of a good saying, the rest as a predicate of the heap -/
theorem init_ok2 {K : PySem.W.Frag} {C CB x d2 : Addr} {H : Hp} {w t : Nat} {u : Bool} {R : Hp → Prop} {E : XK} (S : SayC K C) (hx : H x = none) (hd : H d2 = none) (w0 : 1 ≤ w) (w1 : w < 65536) (t1 : t < 65536) (q : ∀ H', Same H H' → Say C H' x w t u → R H') :
    sp_init K CB [.ref x, .int w, .int t, .bl u] (upd (upd H d2 (.own x)) x (.ins C d2 [])) (fun v H2 => v = .non ∧ R H2) E := by
  have e := init_ok (K := K) (CB := CB) (E := E) (Q := fun v H2 => v = .ref x → R H2) S hx hd w0 w1 t1 (fun a H' _ s hS ea => by
    injection ea with ea
    subst ea
    exact q H' s hS)
  obtain ⟨a, C', dx, x', y, z, e1, h2, r⟩ := e
  refine ⟨a, C', dx, x', y, z, e1, h2, r.1, r.2.1, r.2.2.1, r.2.2.2.1, r.2.2.2.2.1, fun w' t' u' e1 e2 e3 p1 p2 p3 => ?_⟩
  obtain ⟨q1, q2⟩ := r.2.2.2.2.2 w' t' u' e1 e2 e3 p1 p2 p3
  exact ⟨q1, q2 rfl⟩
section
variable {K : PySem.W.Frag} {C CB g : Addr} {H : Hp} {Q : VK} {E : XK}
theorem own_say (S : SayC K C) (S2 : SayK K C g) {x y : Addr} {w t w' t' : Nat} {u u' : Bool} (h1 : Say C H x w t u) (h2 : Say C H y w' t' u') (q : Q (.bl (decide (w = w' ∧ t = t' ∧ u = u'))) H) :
    rOwnD K C (fun vs H Q E => sp_eq K C (vs ++ []) H Q E) E (.ref x) (.ref y) H Q := by
  have h1' := h1
  obtain ⟨dx, e, _⟩ := h1'
  exact ⟨x, dx, _, _, rfl, e, say_ty S S2 h2, by simp [PySem.W.notFirst], x, _, w, t, u, rfl, h1, .inl ⟨y, w', t', u', rfl, h2, q⟩⟩
theorem own_tup (S2 : SayK K C g) {x p : Addr} {w t : Nat} {u : Bool} {xs : List V} (h1 : Say C H x w t u) (h2 : H p = some (.tup xs)) (q : Q (.bl false) H) :
    rOwnD K C (fun vs H Q E => sp_eq K C (vs ++ []) H Q E) E (.ref x) (.ref p) H Q := by
  have h1' := h1
  obtain ⟨dx, e, _⟩ := h1'
  refine ⟨x, dx, _, _, rfl, e, .base (.tup h2), ?_, x, _, w, t, u, rfl, h1, .inr ⟨_, .base (.tup h2), S2.kt, q⟩⟩
  unfold PySem.W.notFirst
  rw [S2.nf]
  simp
/-- of_days of the days that are due -/
theorem of_days_ok {w t : Nat} {u : Bool} (w0 : 1 ≤ w) (w1 : w < 65536) (q : NewSay C w (w &&& t) u Q H) : sp_of_days K C CB [.ref C, .int (w &&& t : Nat), .int (brk w t : Nat), .bl u] H Q E := by
  have hw : w < 2 ^ 16 := w1
  refine ⟨_, _, _, rfl, .inl ⟨_, rfl⟩, .inl ⟨_, rfl⟩, .inr (.inl ⟨_, rfl⟩), fun s z => ?_, fun c b u' e1 e2 e3 e4 e5 => ?_⟩
  · rw [parts_ok (Nat.lt_of_le_of_lt Nat.and_le_left w1) (Nat.lt_of_le_of_lt (brk_le w t) w1) (disj hw) (by rw [both hw]; exact w0)] at z
    cases z
  · injection e1 with e1
    injection e2 with e2
    injection e3 with e3
    obtain rfl : w &&& t = c := by omega
    obtain rfl : brk w t = b := by omega
    subst e3
    rw [both hw]
    exact q
end
end My
set_option Elab.async false
set_option maxRecDepth 100000
set_option maxHeartbeats 8000000
namespace My
open PySem L2 ClX
def sp_check : Sp := fun vs H Q _ => ∃ b : Addr, vs = [.ref b] ∧ Bag H b ∧ ∀ H', Bag H' b → But b H H' → Q (.bl true) H'
section
variable {P : Program} {w : World} {K : PySem.W.Frag} {mg : Str → Option Value} {base : Heap}
abbrev s_l_saying : Stmt := top 25
abbrev N_l_saying : List Str := ["_law_bag_here", "_law_where", "_law_then", "_law_usual", "_law_saying_here", "_law_due_here", "_law_other", "_law_turned", "_law_made_here", "_law_wider"]
theorem sc_l_saying : FnScope N_l_saying ["_law_bag_here"] (defScope s_l_saying) := ⟨rfl, rfl, rfl, by decide +kernel, rfl, by decide +kernel, by decide +kernel⟩
abbrev psI : List Str := ["self", "where", "then", "usual"]
abbrev psO : List Str := ["cls", "confirm", "broken", "usual"]
theorem ok_l_saying {C CB f fI fO pO fC fF fE fS fT fR fD fN : Addr} {fd fdI fdO fdC fdF fdE fdS fdT fdR fdD fdN : FuncData} {mc : Value} {dsI dsO : List Value} {gg1 gg2 : List Value → List Value → List Value} (F : Fun K "_law_saying" "_law_saying" s_l_saying f fd)
    (S : SayC K C) (S2 : SayK K C fE) (gC : mg "Saying" = some (.ref C)) (M : Mk K C fI) (bI : Binds K fdI psI []) (bI1 : Binds K fdI psI dsI) (dI1 : Vals [.bl true] dsI) (kI : KBn K fdI psI 2 ["then", "usual"] gg1 (fun vs zs => vs ++ zs))
    (GI : FnOk P w K mg base (L2.CX P w) 4 fI fdI psI (sp_init K CB)) (CR : CRead K C mc) (CM : CMet K C mc "of_days" pO fO) (bO1 : Binds K fdO psO dsO) (dO1 : Vals [.bl true] dsO) (kO : KBn K fdO psO 3 ["usual"] gg2 (fun vs zs => vs ++ zs))
    (GO : FnOk P w K mg base (L2.CX P w) 6 fO fdO psO (sp_of_days K C CB)) (MC : Meth K C "contrary" fC) (GC : FnOk P w K mg base CX0 6 fC fdC ["self"] (sp_contrary C)) (bC : Binds K fdC ["self"] []) (MF : Meth K C "flipped" fF) (GF : FnOk P w K mg base CX0 6 fF fdF ["self"] (sp_flipped C)) (bF : Binds K fdF ["self"] [])
    (GE : FnOk P w K mg base CX0 2 fE fdE ["self", "other"] (sp_eq K C)) (bE : Binds K fdE ["self", "other"] [])
    (D_l_set : Df K mg "_law_set" ["_law_bag_here"] fS fdS) (G_l_set : FnOk P w K mg base CX0 4 fS fdS ["_law_bag_here"] sp_l_set) (D_l_take : Df K mg "_law_take" ["_law_bag_here", "_law_many"] fT fdT) (G_l_take : FnOk P w K mg base CX0 2 fT fdT ["_law_bag_here", "_law_many"] sp_l_take)
    (D_l_rows : Df K mg "_law_rows" ["_law_saying_here"] fR fdR) (G_l_rows : FnOk P w K mg base CX0 2 fR fdR ["_law_saying_here"] (sp_l_rows C)) (D_l_due : Df K mg "_law_due" ["_law_where", "_law_then", "_law_usual"] fD fdD) (G_l_due : FnOk P w K mg base CX0 2 fD fdD ["_law_where", "_law_then", "_law_usual"] sp_l_due)
    (D_l_on : Df K mg "_law_on" ["_law_saying_here", "_law_due_here"] fN fdN) (G_l_on : FnG P w K mg base CX0 6 fN fdN ["_law_saying_here", "_law_due_here"] (sp_l_on C)) : FnG P w K mg base CX0 7 f fd ["_law_bag_here"] sp_check := by
  refine My.Fun.okG F sc_l_saying (fun vs H Q E h => ?_) (fun cdv A outer s H vs Q E hG hr h => ?_)
  · obtain ⟨b, rfl, _⟩ := h
    rfl
  · obtain ⟨b, rfl, hB, k⟩ := h
    have hu : (A.deeper (PyProof.Rows.envOfC "_law_saying" (defScope s_l_saying) s.heap.objs.size f cdv)).units + 64 < cLine := by
      have := hr.un
      omega
    refine ⟨_, (pss_cons (ps_par3 (i := 1) (j := 2) (l := 3) (by rfl) sc_l_saying.nd rfl rfl rfl (by decide) (by decide) (by decide) rfl rfl rfl (pa_cons (pe_call G_l_set (hr.mono (by decide)) (by rfl) D_l_set.g D_l_set.kp D_l_set.b .nil pass0 (pa_cons (pv 0) pa_nil)) (pa_cons (pe_call G_l_set (hr.mono (by decide)) (by rfl) D_l_set.g D_l_set.kp D_l_set.b .nil pass0 (pa_cons (pv 0) pa_nil)) (pa_cons (pe_cmpR op_eq (pe_call G_l_take (hr.mono (by decide)) (by rfl) D_l_take.g D_l_take.kp D_l_take.b .nil pass0 (pa_cons (pv 0) (pa_cons pe_int pa_nil))) pe_int (nomark _)) pa_nil))) (by rfl))
        (pss_cons (ps_set (i := 1) sc_l_saying.nd rfl (Or.inl rfl) (pe_ifExp (pt_cmpR op_ne (pv 1) pe_int (nomark _)) (pv 1) pe_int))
        (pss_cons (ps_par (i := 4) (j := 5) (by rfl) sc_l_saying.nd rfl rfl (by decide) rfl rfl (pa_cons (pe_make M GI (hr.mono (by decide)) (by rfl) gC bI .nil passL (pa_cons (pv 1) (pa_cons (pv 2) (pa_cons (pv 3) pa_nil)))) (pa_cons (pe_call G_l_due (hr.mono (by decide)) (by rfl) D_l_due.g D_l_due.kp D_l_due.b .nil pass0 (pa_cons (pv 1) (pa_cons (pv 2) (pa_cons (pv 3) pa_nil)))) pa_nil)) (by rfl))
        (pss_cons (ps_if (PW.pt (pw_or (pt_cmpR op_ne (pe_fld (pv 4) rfl) (pv 1) (nomark _)) (pw_or (pt_cmpR op_ne (pe_fld (pv 4) rfl) (pv 2) (nomark _)) (pw_or (pt_cmpR op_ne (pe_fld (pv 4) rfl) (pv 3) (nomark _)) (pw_or1 (pt_cmpR (op_neD hu) (pe_call G_l_rows (hr.mono (by decide)) (by rfl) D_l_rows.g D_l_rows.kp D_l_rows.b .nil pass0 (pa_cons (pv 4) pa_nil)) (pv 5) (nomark _))))))) (pss_one (ps_ret pe_bl)) pss_nil)
        (pss_cons (ps_if (PW.pt (pw_or (pt_not (pt_val (pe_callG G_l_on hG (hr.mono (by decide)) (by rfl) D_l_on.g D_l_on.kp D_l_on.b (pa_cons (pv 4) (pa_cons (pv 5) pa_nil))))) (pw_or1 (pt_not (pt_cmpR (op_ownD (op := .Eq) (fun _ _ => rfl) S2.eq S2.fe (GE.raw bE .nil) (hr.mono (by decide)) pass0) (pe_makeN (n := 1) (ks := ["then", "usual"]) M GI (hr.mono (by decide)) (by rfl) gC kI passL (pa_cons (pv 1) pa_nil) (pk_cons (pv 2) (pk_cons (pv 3) pk_nil))) (pv 4) (nomark _)))))) (pss_one (ps_ret pe_bl)) pss_nil)
        (pss_cons (ps_if (PW.pt (pw_or (pt_cmpR op_notBl (pe_fld (pe_make M GI (hr.mono (by decide)) (by rfl) gC bI1 dI1 passL (pa_cons (pv 1) (pa_cons (pv 2) pa_nil))) rfl) pe_bl (nomark _)) (pw_or1 (pt_cmpR op_notBl (pe_fld (pe_cmeth (pe_glob (v := .ref C) (by rfl) gC rfl) CR CM (GO.raw bO1 dO1) (hr.mono (by decide)) passL (pa_cons (pe_ix ix_list (pv 5) pe_int (fun _ _ => rfl)) (pa_cons (pe_ix ix_list (pv 5) pe_int (fun _ _ => rfl)) pa_nil))) rfl) pe_bl (nomark _))))) (pss_one (ps_ret pe_bl)) pss_nil)
        (pss_cons (ps_par (i := 6) (j := 7) (by rfl) sc_l_saying.nd rfl rfl (by decide) rfl rfl (pa_cons (pe_meth0 (pv 4) S.cl MC GC (hr.mono (by decide)) bC .nil pass0) (pa_cons (pe_meth0 (pv 4) S.cl MF GF (hr.mono (by decide)) bF .nil pass0) pa_nil)) (by rfl))
        (pss_cons (ps_if (PW.pt (pw_or (pt_cmpR (op_neD hu) (pe_call G_l_rows (hr.mono (by decide)) (by rfl) D_l_rows.g D_l_rows.kp D_l_rows.b .nil pass0 (pa_cons (pv 6) pa_nil)) (pe_call G_l_due (hr.mono (by decide)) (by rfl) D_l_due.g D_l_due.kp D_l_due.b .nil pass0 (pa_cons (pv 1) (pa_cons (pv 2) (pa_cons (pe_not (pv 3)) pa_nil)))) (nomark _)) (pw_or (pt_cmpR (op_ownD (op := .Eq) (fun _ _ => rfl) S2.eq S2.fe (GE.raw bE .nil) (hr.mono (by decide)) pass0) (pv 6) (pv 4) (nomark _)) (pw_or1 (pt_not (pt_cmpR (op_ownD (op := .Eq) (fun _ _ => rfl) S2.eq S2.fe (GE.raw bE .nil) (hr.mono (by decide)) pass0) (pe_meth0 (pv 6) S.cl MC GC (hr.mono (by decide)) bC .nil pass0) (pv 4) (nomark _))))))) (pss_one (ps_ret pe_bl)) pss_nil)
        (pss_cons (ps_if (PW.pt (pw_or (pt_cmpR (op_neD hu) (pe_call G_l_rows (hr.mono (by decide)) (by rfl) D_l_rows.g D_l_rows.kp D_l_rows.b .nil pass0 (pa_cons (pv 7) pa_nil)) (pe_call G_l_due (hr.mono (by decide)) (by rfl) D_l_due.g D_l_due.kp D_l_due.b .nil pass0 (pa_cons (pv 1) (pa_cons (pe_ix ix_list (pv 5) pe_int (fun _ _ => rfl)) (pa_cons (pv 3) pa_nil)))) (nomark _)) (pw_or (pt_cmpR op_ne (pe_fld (pv 7) rfl) (pv 1) (nomark _)) (pw_or1 (pt_cmpR op_ne (pe_fld (pv 7) rfl) (pe_ix ix_list (pv 5) pe_int (fun _ _ => rfl)) (nomark _)))))) (pss_one (ps_ret pe_bl)) pss_nil)
        (pss_cons (ps_if (PW.pt (pw_or (pt_cmpR (op_neD hu) (pe_call G_l_rows (hr.mono (by decide)) (by rfl) D_l_rows.g D_l_rows.kp D_l_rows.b .nil pass0 (pa_cons (pe_meth0 (pv 7) S.cl MF GF (hr.mono (by decide)) bF .nil pass0) pa_nil)) (pv 5) (nomark _)) (pw_or1 (pt_cmpR (op_neD hu) (pe_call G_l_rows (hr.mono (by decide)) (by rfl) D_l_rows.g D_l_rows.kp D_l_rows.b .nil pass0 (pa_cons (pe_meth0 (pv 7) S.cl MC GC (hr.mono (by decide)) bC .nil pass0) pa_nil)) (pe_call G_l_rows (hr.mono (by decide)) (by rfl) D_l_rows.g D_l_rows.kp D_l_rows.b .nil pass0 (pa_cons (pe_meth0 (pv 6) S.cl MF GF (hr.mono (by decide)) bF .nil pass0) pa_nil)) (nomark _))))) (pss_one (ps_ret pe_bl)) pss_nil)
        (pss_cons (ps_set (i := 8) sc_l_saying.nd rfl (Or.inl rfl) (pe_cmethN (n := 2) (ks := ["usual"]) (pe_glob (v := .ref C) (by rfl) gC rfl) CR CM GO (hr.mono (by decide)) kO passL (pa_cons (pe_ix ix_list (pv 5) pe_int (fun _ _ => rfl)) (pa_cons (pe_ix ix_list (pv 5) pe_int (fun _ _ => rfl)) pa_nil)) (pk_cons (pv 3) pk_nil)))
        (pss_cons (ps_if (PW.pt (pw_or (pt_cmpR op_ne (pe_fld (pv 8) rfl) (pv 1) (nomark _)) (pw_or (pt_cmpR op_ne (pe_fld (pv 8) rfl) (pe_ix ix_list (pv 5) pe_int (fun _ _ => rfl)) (nomark _)) (pw_or1 (pt_cmpR (op_neD hu) (pe_call G_l_rows (hr.mono (by decide)) (by rfl) D_l_rows.g D_l_rows.kp D_l_rows.b .nil pass0 (pa_cons (pv 8) pa_nil)) (pv 5) (nomark _)))))) (pss_one (ps_ret pe_bl)) pss_nil)
        (pss_cons (ps_if (PW.pt (pw_or (pt_cmpR op_ne (pe_cmpR (op_ownD (op := .Eq) (fun _ _ => rfl) S2.eq S2.fe (GE.raw bE .nil) (hr.mono (by decide)) pass0) (pv 8) (pv 4) (nomark _)) (pe_cmpR op_eq (pv 2) (pe_ix ix_list (pv 5) pe_int (fun _ _ => rfl)) (nomark _)) (nomark _)) (pw_or1 (pt_cmpR (op_ownD (op := .Eq) (fun _ _ => rfl) S2.eq S2.fe (GE.raw bE .nil) (hr.mono (by decide)) pass0) (pv 4) (pe_tup (pa_cons (pv 1) (pa_cons (pv 2) (pa_cons (pv 3) pa_nil)))) (nomark _))))) (pss_one (ps_ret pe_bl)) pss_nil)
        (pss_cons (ps_set (i := 9) sc_l_saying.nd rfl (Or.inl rfl) (pe_make M GI (hr.mono (by decide)) (by rfl) gC bI .nil passL (pa_cons (pv 1) (pa_cons (pe_op op_xor (pv 2) pe_int) (pa_cons (pv 3) pa_nil)))))
        (pss_one (ps_ret (pe_and (pe_not (pe_cmpR (op_ownD (op := .Eq) (fun _ _ => rfl) S2.eq S2.fe (GE.raw bE .nil) (hr.mono (by decide)) pass0) (pv 9) (pv 4) (nomark _))) (pe_one (pe_cmpR op_eq (pe_cmpR (op_eqD hu) (pe_call G_l_rows (hr.mono (by decide)) (by rfl) D_l_rows.g D_l_rows.kp D_l_rows.b .nil pass0 (pa_cons (pv 9) pa_nil)) (pv 5) (nomark _)) (pe_cmpR op_lt (pv 1) pe_int (nomark _)) (nomark _)))))))))))))))))))), ?_⟩
    refine ⟨_, rfl, b, rfl, hB, fun n H1 hn hB1 k1 => ?_⟩
    refine ⟨_, rfl, b, rfl, hB1, fun t H2 t1 hB2 k2 => ?_⟩
    refine ⟨_, rfl, b, 2, rfl, hB2, by decide, by decide, fun r H3 r0 r1 hB3 k3 => ?_⟩
    refine ⟨rfl, _, _, _, rfl, ?_⟩
    have kk := (k1.trans k2).trans k3
    have hu0 : ∀ c : Bool, ∃ u, V.bl c = V.bl u := fun c => ⟨c, rfl⟩
    generalize (decide (V.int r = V.int 0)) = u
    clear k1 k2 k3 hB hB1 hB2 r0 r1
    dsimp only
    refine asg_of (R := fun v H' => ∃ w : Nat, v = .int (w : Int) ∧ 1 ≤ w ∧ w < 65536 ∧ H' = H3) (fun Q' q' => ?_) fun v H' ⟨w, ev, w0, w1, eH⟩ => ?_
    · refine ⟨_, rfl, rfl, _, rfl, ?_⟩
      by_cases e : n = 0
      · subst e
        exact iteNS rfl (q' _ _ ⟨1, rfl, by decide, by decide, rfl⟩)
      · exact ite_nd (fun z => e (by injection z; omega)) ⟨_, rfl, q' _ _ ⟨n, rfl, by omega, hn, rfl⟩⟩
    subst ev eH
    have hw : w < 2 ^ 16 := w1
    try dsimp only [gName]
    -- the saying and what is due
    refine ⟨_, rfl, _, rfl, _, rfl, fun a d2 na hd ne => init_ok2 S na hd w0 w1 t1 fun H4 s4 hS => ?_⟩
    refine ⟨_, rfl, _, rfl, _, rfl, w, t, u, rfl, w1, fun p H5 np s5 hp => ⟨_, _, rfl, ?_⟩⟩
    have hS5 := hS.same s5
    have s35 := s4.trans s5
    clear hS na np hd ne
    obtain ⟨dx, ha5, _⟩ := hS5
    have hS5 : Say C H5 a w t u := ⟨dx, ha5, w0, w1, t1⟩
    obtain ⟨r2, r3, r4, er⟩ := rows_two (w &&& t) (brk w t) u
    have hpl : H5 p = some (.lst [.int (w &&& t : Nat), .int (brk w t : Nat), .int r2, .int r3, .int r4]) := by
      rw [er] at hp
      exact hp
    have k := fun H' hb kb => k H' hb (kk.trans kb)
    have hB5 : Bag H5 b := hB3.same s35
    have k := fun H' (s : Same H5 H') => k H' (hB5.same s) (But.of (s35.trans s))
    -- as asked
    refine ⟨_, rfl, a, C, dx, _, _, rfl, ha5, S.cl, S.nW, rfl, _, rfl, rfl, _, rfl, iteNS rfl ?_⟩
    refine ⟨_, rfl, a, C, dx, _, _, rfl, ha5, S.cl, S.nT, rfl, _, rfl, rfl, _, rfl, iteNS rfl ?_⟩
    refine ⟨_, rfl, a, C, dx, _, _, rfl, ha5, S.cl, S.nU, rfl, _, rfl, rfl, _, rfl, iteNS rfl ?_⟩
    refine ⟨_, rfl, a, w, t, u, rfl, hS5, fun q1 hq1 => ⟨_, rfl, ne_ints (SqL.of upd_same) (SqL.of ((same_new hq1) _ _ hp)) ⟨_, rfl, iteNS rfl ?_⟩⟩⟩
    have s6 := same_new (o := .lst ((rows (w &&& t) (brk w t) u).map V.int)) hq1
    -- day by day; made by keywords
    refine ⟨_, rfl, _, rfl, a, p, w, t, u, rfl, hS5.same s6, s6 _ _ hp, fun H7 s7 => ⟨_, rfl, iteF ?_⟩⟩
    have s7 := s6.trans s7
    refine ⟨_, rfl, _, rfl, _, rfl, rfl, rfl, fun x d2 hx hd ne => init_ok2 S hx hd w0 w1 t1 fun H8 s8 hS8 => ⟨_, rfl, own_say S S2 hS8 (hS5.same (s7.trans s8)) ⟨_, rfl, iteNS ⟨rfl, rfl, rfl⟩ ?_⟩⟩⟩
    have s8 := s7.trans s8
    clear s6 s7 hS8 hx hd ne hq1
    -- the kind left out
    refine ⟨_, rfl, _, rfl, fun x d2 hx hd ne => init_ok2 (u := true) S hx hd w0 w1 t1 fun H9 s9 ⟨dx9, h9, _⟩ => ⟨x, C, dx9, _, _, rfl, h9, S.cl, S.nU, rfl, true, true, rfl, rfl, _, rfl, iteNS rfl ?_⟩⟩
    have s9 := s8.trans s9
    clear s8 h9 hx hd ne
    refine ⟨rfl, _, rfl, _, _, _, _, rfl, rfl, SqL.of (s9 _ _ hpl), rfl, _, rfl, _, _, _, _, rfl, rfl, SqL.of (s9 _ _ hpl), rfl, of_days_ok w0 w1 fun x H10 nx s10 ⟨dx10, h10, _⟩ => ⟨x, C, dx10, _, _, rfl, h10, S.cl, S.nU, rfl, true, true, rfl, rfl, _, rfl, iteNS rfl ?_⟩⟩
    have s10 := s9.trans s10
    clear s9 h10 nx
    -- contrary and flipped
    refine ⟨_, rfl, a, dx, _, rfl, s10 _ _ ha5, rfl, a, w, t, u, rfl, hS5.same s10, fun o H11 no s11 hO => ?_⟩
    have s11 := s10.trans s11
    refine ⟨_, rfl, a, dx, _, rfl, s11 _ _ ha5, rfl, a, w, t, u, rfl, hS5.same s11, fun f' H12 nf s12 hF => ⟨_, _, rfl, ?_⟩⟩
    have hO := hO.same s12
    have s12 := s11.trans s12
    clear s10 s11 no nf
    obtain ⟨dxo, ho, _⟩ := hO
    have hO : Say C H12 o w t (!u) := ⟨dxo, ho, w0, w1, t1⟩
    obtain ⟨dxf, hf, _⟩ := hF
    have hF : Say C H12 f' w (brk w t) u := ⟨dxf, hf, w0, w1, Nat.lt_of_le_of_lt (brk_le w t) w1⟩
    have hS := hS5.same s12
    have hpr := s12 _ _ hp
    have hpl := s12 _ _ hpl
    have k := fun H' (s : Same H12 H') => k H' (s12.trans s)
    have ha := s12 _ _ ha5
    clear ha5 hS5 s12 hp
    refine ⟨_, rfl, o, w, t, !u, rfl, hO, fun q hq => ⟨_, rfl, _, rfl, _, rfl, _, rfl, w, t, !u, rfl, w1, fun p' H13 np s13 hp' => ne_ints (SqL.of (s13 _ _ upd_same)) (SqL.of hp') ⟨_, rfl, iteNS rfl ?_⟩⟩⟩
    have s13 := (same_new hq).trans s13
    clear hp' np hq
    refine ⟨_, rfl, _, rfl, own_say S S2 (hO.same s13) (hS.same s13) ⟨_, rfl, ite_dn (fun z => by cases u <;> cases z.2.2) ?_⟩⟩
    refine ⟨_, rfl, o, dxo, _, rfl, s13 _ _ ho, rfl, o, w, t, !u, rfl, hO.same s13, fun z H14 nz s14 hZ => ⟨_, rfl, own_say S S2 hZ (hS.same (s13.trans s14)) ⟨_, rfl, iteNS ⟨rfl, rfl, by cases u <;> rfl⟩ ?_⟩⟩⟩
    have s14 := s13.trans s14
    clear s13 hZ nz
    -- flipped
    refine ⟨_, rfl, f', w, brk w t, u, rfl, hF.same s14, fun q hq => ⟨_, rfl, _, rfl, _, _, _, _, rfl, rfl, SqL.of ((same_new hq) _ _ (s14 _ _ hpl)), rfl, _, rfl, w, brk w t, u, rfl, w1, fun p' H15 np s15 hp' => ne_ints (SqL.of (s15 _ _ upd_same)) (SqL.of hp') ⟨_, rfl, iteNS rfl ?_⟩⟩⟩
    have s15 := s14.trans ((same_new hq).trans s15)
    clear s14 hp' np hq
    refine ⟨_, rfl, f', C, dxf, _, _, rfl, s15 _ _ hf, S.cl, S.nW, rfl, _, rfl, rfl, _, rfl, iteNS rfl ?_⟩
    refine ⟨_, rfl, f', C, dxf, _, _, rfl, s15 _ _ hf, S.cl, S.nT, rfl, _, rfl, _, _, _, _, rfl, rfl, SqL.of (s15 _ _ hpl), rfl, rfl, _, rfl, iteNS rfl ?_⟩
    -- back again, and both ways
    refine ⟨_, rfl, f', dxf, _, rfl, s15 _ _ hf, rfl, f', w, brk w t, u, rfl, hF.same s15, fun g' H16 ng s16 hG' => ⟨g', w, brk w (brk w t), u, rfl, hG', fun q hq => ⟨_, rfl, ne_ints (SqL.of upd_same) (SqL.of ((same_new hq) _ _ (s16 _ _ (s15 _ _ hpr)))) ⟨_, rfl, iteNS (by rw [brk_brk hw, and_and, brk_con]) ?_⟩⟩⟩⟩
    have s16 := s15.trans (s16.trans (same_new (o := .lst ((rows (w &&& brk w (brk w t)) (brk w (brk w (brk w t))) u).map V.int)) hq))
    clear s15 hG' ng hq
    refine ⟨_, rfl, f', dxf, _, rfl, s16 _ _ hf, rfl, f', w, brk w t, u, rfl, hF.same s16, fun g' H17 ng s17 hG' => ⟨g', w, brk w t, !u, rfl, hG', fun q hq => ?_⟩⟩
    have s17 := s16.trans (s17.trans (same_new (o := .lst ((rows (w &&& brk w t) (brk w (brk w t)) (!u)).map V.int)) hq))
    refine ⟨_, rfl, o, dxo, _, rfl, s17 _ _ ho, rfl, o, w, t, !u, rfl, hO.same s17, fun g2 H18 ng2 s18 hG2 => ⟨g2, w, brk w t, !u, rfl, hG2, fun q2 hq2 => ne_ints (SqL.of ((same_new hq2) _ _ (s18 _ _ upd_same))) (SqL.of upd_same) ⟨_, rfl, iteNS rfl ?_⟩⟩⟩
    have s18 := s17.trans (s18.trans (same_new (o := .lst ((rows (w &&& brk w t) (brk w (brk w t)) (!u)).map V.int)) hq2))
    clear s16 s17 hG' hG2 ng ng2 hq hq2
    -- made of the days
    refine ⟨rfl, _, rfl, _, _, _, _, rfl, rfl, SqL.of (s18 _ _ hpl), rfl, _, rfl, _, _, _, _, rfl, rfl, SqL.of (s18 _ _ hpl), rfl, _, rfl, rfl, rfl, of_days_ok w0 w1 fun m H19 nm s19 hM => ?_⟩
    have s19 := s18.trans s19
    clear s18 nm
    obtain ⟨dxm, hm, _⟩ := hM
    have t2 : w &&& t < 65536 := Nat.lt_of_le_of_lt Nat.and_le_left w1
    have hM : Say C H19 m w (w &&& t) u := ⟨dxm, hm, w0, w1, t2⟩
    refine ⟨_, rfl, m, C, dxm, _, _, rfl, hm, S.cl, S.nW, rfl, _, rfl, rfl, _, rfl, iteNS rfl ?_⟩
    refine ⟨_, rfl, m, C, dxm, _, _, rfl, hm, S.cl, S.nT, rfl, _, rfl, _, _, _, _, rfl, rfl, SqL.of (s19 _ _ hpl), rfl, rfl, _, rfl, iteNS rfl ?_⟩
    refine ⟨_, rfl, m, w, w &&& t, u, rfl, hM, fun q hq => ⟨_, rfl, ne_ints (SqL.of upd_same) (SqL.of ((same_new hq) _ _ (s19 _ _ hpr))) ⟨_, rfl, iteNS (by rw [and_and, brk_con]) ?_⟩⟩⟩
    have s20 := same_new (o := .lst ((rows (w &&& (w &&& t)) (brk w (w &&& t)) u).map V.int)) hq
    have hM := hM.same s20
    have s20 := s19.trans s20
    clear s19 hm hq
    -- equal or not
    refine ⟨_, rfl, _, rfl, own_say S S2 hM (hS.same s20) ⟨_, rfl, _, rfl, _, _, _, _, rfl, rfl, SqL.of (s20 _ _ hpl), rfl, rfl, rfl, _, rfl, iteNS ?_ ?_⟩⟩
    · refine congrArg V.bl (decide_eq_decide.mpr ⟨fun z => ?_, fun z => ?_⟩)
      · rw [z.2.1]
      · injection z with z
        exact ⟨rfl, by omega, rfl⟩
    refine ⟨_, rfl, _, rfl, _, rfl, _, rfl, by show 3 ≤ sizeLine; decide, fun T hT => own_tup S2 ((hS.same s20).same (same_new hT)) upd_same ⟨_, rfl, iteF ?_⟩⟩
    have s21 := s20.trans (same_new (o := .tup [V.int w, V.int t, V.bl u]) hT)
    clear s20 hT hM
    -- the wider one
    refine ⟨_, rfl, _, rfl, _, _, rfl, rfl, _, rfl, ?_⟩
    have ex : Builtin.bitXor (t : Int) 32768 = ((t ^^^ 32768 : Nat) : Int) := xor_cast t 32768
    intro x d2 hx hd ne
    show sp_init K CB [.ref x, .int w, .int (Builtin.bitXor (t : Int) 32768), .bl u] _ _ _
    rw [ex]
    refine init_ok2 S hx hd w0 w1 (xor_lt t1) fun H22 s22 hW => ?_
    have s22 := s21.trans s22
    clear s21 hx hd ne
    refine ⟨_, rfl, _, rfl, own_say S S2 hW (hS.same s22) ⟨_, rfl, _, rfl, ?_⟩⟩
    have e0 : decide (w = w ∧ t ^^^ 32768 = t ∧ u = u) = false := decide_eq_false fun z => xor_ne t z.2.1
    rw [e0]
    refine iteT ⟨_, rfl, x, w, t ^^^ 32768, u, rfl, hW, fun q hq => ⟨_, rfl, eq_ints (SqL.of upd_same) (SqL.of ((same_new hq) _ _ (s22 _ _ hpr))) ?_⟩⟩
    rw [wider_rows hw]
    refine ⟨_, rfl, _, _, rfl, rfl, rfl, ?_⟩
    have e1 : decide (w < 32768) = decide ((w : Int) < 32768) := decide_eq_decide.mpr (by omega)
    have k' := k _ (s22.trans (same_new (o := .lst ((rows (w &&& (t ^^^ 32768)) (brk w (t ^^^ 32768)) u).map V.int)) hq))
    have eT : true = decide (V.bl (decide (w < 32768)) = V.bl (decide ((w : Int) < 32768))) := (decide_eq_true (congrArg V.bl e1)).symm
    rw [eT] at k'
    exact k'
end
end My
set_option Elab.async false
set_option maxRecDepth 100000
set_option maxHeartbeats 8000000
namespace My
open PySem L2 ClX
theorem seq_of {t U : TS} {D : Ends} {σ : St} {H : Hp} (R : St → Hp → Prop) (k : ∀ nx : St → Hp → Prop, (∀ σ' H', R σ' H' → nx σ' H') → t { D with nx := nx } σ H) (h : ∀ σ' H', R σ' H' → U D σ' H') : tSeq t U D σ H := k _ h
/-- told of x wherever the tuple stands at T -/
def Gd (K : PySem.W.Frag) (T : Addr) (x : V) : Prop := ∀ H, H T = some (.tup [.int 1]) → Th K H x
theorem scal_word (o : Option Str) : scal (wordV o) (wordV o) = true := by cases o <;> rfl
theorem rest_ok {n : Nat} {u : Bool} (hn : n < 65536) : partsWord (.int n) (.int (65535 - (n : Int))) (.bl u) = none := by
  have e1 : 65535 &&& n = n := by
    rw [Nat.and_comm, show (65535 : Nat) = 2 ^ 16 - 1 from rfl, Nat.and_two_pow_sub_one_eq_mod]
    exact Nat.mod_eq_of_lt hn
  have e2 : brk 65535 n = 65535 - n := by unfold brk; rw [e1]
  have e3 : (65535 : Int) - (n : Int) = ((65535 - n : Nat) : Int) := by omega
  rw [e3]
  have d := disj (w := 65535) (t := n) (by decide)
  have o := both (w := 65535) (t := n) (by decide)
  rw [e1, e2] at d o
  exact parts_ok hn (by omega) d (by omega)
section
variable {P : Program} {w : World} {K : PySem.W.Frag} {mg : Str → Option Value} {base : Heap}
abbrev s_l_refusals : Stmt := top 26
abbrev N_l_refusals : List Str := ["_law_bag_here", "_law_turn", "_law_one", "_law_other", "_law_usual", "_law_odd", "_law_kind"]
theorem sc_l_refusals : FnScope N_l_refusals ["_law_bag_here"] (defScope s_l_refusals) := ⟨rfl, rfl, rfl, by decide +kernel, rfl, by decide +kernel, by decide +kernel⟩
abbrev psM : List Str := ["_law_one", "_law_other", "_law_usual", "_law_parts"]
abbrev psW : List Str := ["_law_where", "_law_then", "_law_usual"]
abbrev psP : List Str := ["_law_confirm", "_law_broken", "_law_usual"]
theorem ok_l_refusals {f fS fT fO fM fW fP : Addr} {fd fdS fdT fdO fdM fdW fdP : FuncData} (F : Fun K "_law_refusals" "_law_refusals" s_l_refusals f fd) (T : BtR mg)
    (D_l_set : Df K mg "_law_set" ["_law_bag_here"] fS fdS) (G_l_set : FnOk P w K mg base CX0 4 fS fdS ["_law_bag_here"] sp_l_set) (D_l_take : Df K mg "_law_take" ["_law_bag_here", "_law_many"] fT fdT) (G_l_take : FnOk P w K mg base CX0 2 fT fdT ["_law_bag_here", "_law_many"] sp_l_take)
    (D_l_of : Df K mg "_law_of" ["_law_bag_here", "_law_some"] fO fdO) (G_l_of : FnOk P w K mg base CX0 3 fO fdO ["_law_bag_here", "_law_some"] sp_l_of)
    (D_l_made : Df K mg "_law_made" psM fM fdM) (G_l_made : FnOk P w K mg base CX0 7 fM fdM psM (sp_l_made K)) (D_l_word : Df K mg "_law_word" psW fW fdW) (G_l_word : FnOk P w K mg base CX0 3 fW fdW psW (sp_l_word K))
    (D_l_parts_word : Df K mg "_law_parts_word" psP fP fdP) (G_l_parts_word : FnOk P w K mg base CX0 3 fP fdP psP (sp_l_parts K)) : FnOk P w K mg base CX0 8 f fd ["_law_bag_here"] sp_check := by
  refine F.ok sc_l_refusals (fun vs H Q E h => ?_) (fun cdv A outer s H vs Q E hr h => ?_)
  · obtain ⟨b, rfl, _⟩ := h
    rfl
  · obtain ⟨b, rfl, hB, k⟩ := h
    refine ⟨_, (pss_cons (ps_for PassesOwn.never rfl (pi_range1 (by rfl) T.range (pa_cons pe_int pa_nil)) (pg_name (i := 1) sc_l_refusals.nd rfl (Or.inl rfl)) (pss_cons (ps_par3 (i := 2) (j := 3) (l := 4) (by rfl) sc_l_refusals.nd rfl rfl rfl (by decide) (by decide) (by decide) rfl rfl rfl (pa_cons (pe_call G_l_set (hr.mono (by decide)) (by rfl) D_l_set.g D_l_set.kp D_l_set.b .nil pass0 (pa_cons (pv 0) pa_nil)) (pa_cons (pe_call G_l_set (hr.mono (by decide)) (by rfl) D_l_set.g D_l_set.kp D_l_set.b .nil pass0 (pa_cons (pv 0) pa_nil)) (pa_cons (pe_cmpR op_eq (pe_call G_l_take (hr.mono (by decide)) (by rfl) D_l_take.g D_l_take.kp D_l_take.b .nil pass0 (pa_cons (pv 0) (pa_cons pe_int pa_nil))) pe_int (nomark _)) pa_nil))) (by rfl))
        (pss_cons (ps_set (i := 5) sc_l_refusals.nd rfl (Or.inl rfl) (pe_call G_l_of (hr.mono (by decide)) (by rfl) D_l_of.g D_l_of.kp D_l_of.b .nil pass0 (pa_cons (pv 0) (pa_cons (pe_lst (pa_cons (pe_un un_neg pe_int) (pa_cons pe_int (pa_cons pe_bl (pa_cons pe_bl (pa_cons pe_non (pa_cons pe_str (pa_cons (pe_tup (pa_cons pe_int pa_nil)) (pa_cons (pe_op op_pow pe_int pe_int) (pa_cons pe_int (pa_cons pe_int pa_nil))))))))))) pa_nil))))
        (pss_cons (ps_set (i := 6) sc_l_refusals.nd rfl (Or.inl rfl) (pe_call G_l_take (hr.mono (by decide)) (by rfl) D_l_take.g D_l_take.kp D_l_take.b .nil pass0 (pa_cons (pv 0) (pa_cons pe_int pa_nil))))
        (pss_cons (ps_if (pt_cmpR op_in_seq (pv 6) (pe_tup (pa_cons pe_int (pa_cons pe_int pa_nil))) (by rfl)) (pss_one (ps_set (i := 2) sc_l_refusals.nd rfl (Or.inl rfl) (pv 5))) pss_nil)
        (pss_cons (ps_if (pt_cmpR op_in_seq (pv 6) (pe_tup (pa_cons pe_int (pa_cons pe_int (pa_cons pe_int pa_nil)))) (by rfl)) (pss_one (ps_set (i := 3) sc_l_refusals.nd rfl (Or.inl rfl) (pv 5))) pss_nil)
        (pss_cons (ps_if (pt_cmpR op_in_seq (pv 6) (pe_tup (pa_cons pe_int (pa_cons pe_int pa_nil))) (by rfl)) (pss_one (ps_set (i := 4) sc_l_refusals.nd rfl (Or.inl rfl) (pe_call G_l_of (hr.mono (by decide)) (by rfl) D_l_of.g D_l_of.kp D_l_of.b .nil pass0 (pa_cons (pv 0) (pa_cons (pe_lst (pa_cons pe_int (pa_cons pe_int (pa_cons pe_non (pa_cons pe_str pa_nil))))) pa_nil))))) pss_nil)
        (pss_cons (ps_if (pt_cmpR op_ne (pe_call G_l_made (hr.mono (by decide)) (by rfl) D_l_made.g D_l_made.kp D_l_made.b .nil pass0 (pa_cons (pv 2) (pa_cons (pv 3) (pa_cons (pv 4) (pa_cons pe_bl pa_nil))))) (pe_call G_l_word (hr.mono (by decide)) (by rfl) D_l_word.g D_l_word.kp D_l_word.b .nil pass0 (pa_cons (pv 2) (pa_cons (pv 3) (pa_cons (pv 4) pa_nil)))) (nomark _)) (pss_one (ps_ret pe_bl)) pss_nil)
        (pss_cons (ps_if (pt_cmpR op_ne (pe_call G_l_made (hr.mono (by decide)) (by rfl) D_l_made.g D_l_made.kp D_l_made.b .nil pass0 (pa_cons (pv 2) (pa_cons (pv 3) (pa_cons (pv 4) (pa_cons pe_bl pa_nil))))) (pe_call G_l_parts_word (hr.mono (by decide)) (by rfl) D_l_parts_word.g D_l_parts_word.kp D_l_parts_word.b .nil pass0 (pa_cons (pv 2) (pa_cons (pv 3) (pa_cons (pv 4) pa_nil)))) (nomark _)) (pss_one (ps_ret pe_bl)) pss_nil)
        (pss_one (ps_if (PW.pt (pw_and (pt_cmpR op_eq (pv 6) pe_int (nomark _)) (pw_and1 (pt_cmpR op_notN (pe_call G_l_made (hr.mono (by decide)) (by rfl) D_l_made.g D_l_made.kp D_l_made.b .nil pass0 (pa_cons (pv 2) (pa_cons (pe_op op_sub pe_int (pv 2)) (pa_cons (pv 4) (pa_cons pe_bl pa_nil))))) pe_non (nomark _))))) (pss_one (ps_ret pe_bl)) pss_nil)))))))))))
        (pss_one (ps_ret (pe_and (pe_cmpR op_eq (pe_call G_l_made (hr.mono (by decide)) (by rfl) D_l_made.g D_l_made.kp D_l_made.b .nil pass0 (pa_cons pe_int (pa_cons pe_int (pa_cons pe_bl (pa_cons pe_bl pa_nil))))) pe_str (nomark _)) (pe_one (pe_cmpR op_eq (pe_call G_l_made (hr.mono (by decide)) (by rfl) D_l_made.g D_l_made.kp D_l_made.b .nil pass0 (pa_cons pe_int (pa_cons pe_int (pa_cons pe_int (pa_cons pe_bl pa_nil))))) pe_str (nomark _))))))), ?_⟩
    refine ⟨4, rfl, by decide, by decide, for_range (lo := 0) (n := 4) (fun i σ H' => Bag H' b ∧ But b H H' ∧ ∃ u1 u2 u3 u4 u5 u6, σ = [some (.ref b), u1, u2, u3, u4, u5, u6]) ⟨hB, But.refl b H, _, _, _, _, _, _, rfl⟩ ?_ ?_⟩
    · rintro i σ H0 hi ⟨hB0, k0, u1, u2, u3, u4, u5, u6, rfl⟩
      refine ⟨_, rfl, b, rfl, hB0, fun n H1 hn hB1 k1 => ?_⟩
      refine ⟨_, rfl, b, rfl, hB1, fun m H2 hm hB2 k2 => ?_⟩
      refine ⟨_, rfl, b, 2, rfl, hB2, by decide, by decide, fun r H3 r0 r1 hB3 k3 => ?_⟩
      refine ⟨rfl, _, _, _, rfl, ?_⟩
      have kk := ((k0.trans k1).trans k2).trans k3
      generalize (decide (V.int r = V.int 0)) = u
      clear k0 k1 k2 k3 hB0 hB1 hB2 r0 r1
      refine ⟨_, rfl, _, rfl, by show 1 ≤ sizeLine; decide, fun Tt hTt => ⟨_, _, rfl, rfl, ⟨by decide, by decide, by decide⟩, by show 10 ≤ sizeLine; decide, fun LL hLL => ?_⟩⟩
      have hT1 : (upd H3 Tt (.tup [V.int 1])) Tt = some (.tup [.int 1]) := upd_same
      have g1 := same_new (o := .tup [V.int 1]) hTt
      have nT : Tt ≠ b := hB3.ne hTt
      have nL : LL ≠ b := (hB3.same g1).ne hLL
      have g2 : Same (upd H3 Tt (.tup [V.int 1])) _ := same_new (o := .lst [V.int (-1), V.int 65536, V.bl true, V.bl false, V.non, V.str "1", V.ref Tt, V.int (10 ^ 30), V.int 0, V.int 0]) hLL
      refine ⟨b, LL, [V.int (-1), V.int 65536, V.bl true, V.bl false, V.non, V.str "1", V.ref Tt, V.int (10 ^ 30), V.int 0, V.int 0], rfl, (hB3.same g1).same g2, nL, upd_same, by show 0 < 10; decide, by show 10 ≤ 100000; decide, fun j v H4 hj hB4 k4 => ?_⟩
      have hT4 := k4 _ _ nT (g2 _ _ hT1)
      have kk := (kk.trans (But.of (g1.trans g2))).trans k4
      have hodd : Gd K Tt v := fun HH hTT => by
        have hmm := List.mem_of_getElem? hj
        simp only [List.mem_cons, List.not_mem_nil, or_false] at hmm
        rcases hmm with rfl | rfl | rfl | rfl | rfl | rfl | rfl | rfl | rfl | rfl
        · exact .inl ⟨_, rfl⟩
        · exact .inl ⟨_, rfl⟩
        · exact .inr (.inl ⟨_, rfl⟩)
        · exact .inr (.inl ⟨_, rfl⟩)
        · exact .inr (.inr ⟨fun _ => V.noConfusion, fun _ => V.noConfusion, _, .base .non, by decide +kernel, by decide +kernel⟩)
        · exact .inr (.inr ⟨fun _ => V.noConfusion, fun _ => V.noConfusion, _, .base (.str _), by decide +kernel, by decide +kernel⟩)
        · exact .inr (.inr ⟨fun _ => V.noConfusion, fun _ => V.noConfusion, _, .base (.tup hTT), by decide +kernel, by decide +kernel⟩)
        · exact .inl ⟨_, rfl⟩
        · exact .inl ⟨_, rfl⟩
        · exact .inl ⟨_, rfl⟩
      clear hT1 g1 g2 hTt hLL nL hj
      refine ⟨_, rfl, b, 6, rfl, hB4, by decide, by decide, fun r H5 r0 r1 hB5 k5 => ?_⟩
      have hT5 := k5 _ _ nT hT4
      have kk := kk.trans k5
      clear hT4 hB4 k4 k5 r0 r1 hB3
      try dsimp only
      -- one
      refine seq_of (fun σ' H' => ∃ (u1 : Option V) (x : V), σ' = [some (.ref b), u1, some x, some (.int (m : Int)), some (.bl u), some v, some (.int r)] ∧ Gd K Tt x ∧ (r = 5 → x = .int (n : Int)) ∧ Same H5 H') (fun nx hnx => ?_) fun σ' H6 ⟨u1', x, eσ, gx, x5, s6⟩ => ?_
      · refine ⟨_, rfl, by show 2 ≤ sizeLine; decide, fun T2 hT2 => ⟨T2, _, rfl, .inr (SqT.of upd_same), rfl, rfl, _, rfl, ite2 (fun z => ?_) (fun z => ?_)⟩⟩
        · refine ⟨_, rfl, hnx _ _ ⟨_, _, rfl, hodd, fun e => ?_, same_new hT2⟩⟩
          subst e
          cases z
        · exact hnx _ _ ⟨_, _, rfl, fun _ _ => .inl ⟨_, rfl⟩, fun _ => rfl, same_new hT2⟩
      subst eσ
      try dsimp only
      refine seq_of (fun σ' H' => ∃ (u1 : Option V) (y : V), σ' = [some (.ref b), u1, some x, some y, some (.bl u), some v, some (.int r)] ∧ Gd K Tt y ∧ Same H5 H') (fun nx hnx => ?_) fun σ' H7 ⟨u1', y, eσ, gy, s7⟩ => ?_
      · refine ⟨_, rfl, by show 3 ≤ sizeLine; decide, fun T2 hT2 => ⟨T2, _, rfl, .inr (SqT.of upd_same), rfl, rfl, _, rfl, ite2 (fun z => ?_) (fun z => ?_)⟩⟩
        · exact ⟨_, rfl, hnx _ _ ⟨_, _, rfl, hodd, s6.trans (same_new hT2)⟩⟩
        · exact hnx _ _ ⟨_, _, rfl, fun _ _ => .inl ⟨_, rfl⟩, s6.trans (same_new hT2)⟩
      subst eσ
      try dsimp only
      refine seq_of (fun σ' H' => ∃ (u1 : Option V) (z : V), σ' = [some (.ref b), u1, some x, some y, some z, some v, some (.int r)] ∧ (∀ HH, Th K HH z) ∧ (r = 5 → ∃ u, z = .bl u) ∧ Bag H' b ∧ But b H5 H') (fun nx hnx => ?_) fun σ' H8 ⟨u1', z, eσ, gz, z5, hB8, k8⟩ => ?_
      · refine ⟨_, rfl, by show 2 ≤ sizeLine; decide, fun T2 hT2 => ⟨T2, _, rfl, .inr (SqT.of upd_same), rfl, rfl, _, rfl, ite2 (fun z => ?_) (fun z => ?_)⟩⟩
        · have s8 := s7.trans (same_new (o := .tup [V.int 2, V.int 4]) hT2)
          refine ⟨_, rfl, by show 4 ≤ sizeLine; decide, fun L2 hL2 => ?_⟩
          have g3 := same_new (o := .lst [V.int 0, V.int 1, V.non, V.str "usually"]) hL2
          refine ⟨b, L2, _, rfl, (hB5.same s8).same g3, (hB5.same s8).ne hL2, upd_same, by show 0 < 4; decide, by show 4 ≤ 100000; decide, fun j v' H9 hj hB9 k9 => ?_⟩
          refine hnx _ _ ⟨_, _, rfl, fun HH => ?_, fun e => ?_, hB9, (But.of (s8.trans g3)).trans k9⟩
          · have hmm := List.mem_of_getElem? hj
            simp only [List.mem_cons, List.not_mem_nil, or_false] at hmm
            rcases hmm with rfl | rfl | rfl | rfl
            · exact .inl ⟨_, rfl⟩
            · exact .inl ⟨_, rfl⟩
            · exact .inr (.inr ⟨fun _ => V.noConfusion, fun _ => V.noConfusion, _, .base .non, by decide +kernel, by decide +kernel⟩)
            · exact .inr (.inr ⟨fun _ => V.noConfusion, fun _ => V.noConfusion, _, .base (.str _), by decide +kernel, by decide +kernel⟩)
          · subst e
            cases z
        · exact hnx _ _ ⟨_, _, rfl, fun _ => .inr (.inl ⟨_, rfl⟩), fun _ => ⟨_, rfl⟩, hB5.same (s7.trans (same_new hT2)), But.of (s7.trans (same_new hT2))⟩
      subst eσ
      have hT8 := k8 _ _ nT hT5
      have kk := kk.trans k8
      clear hT5 hB5 s6 s7 k8
      try dsimp only
      refine ⟨_, rfl, _, rfl, _, rfl, x, y, z, false, rfl, gx _ hT8, gy _ hT8, gz _, fun H9 s9 => ⟨_, rfl, _, rfl, _, rfl, x, y, z, rfl, gx _ (s9 _ _ hT8), gy _ (s9 _ _ hT8), gz _, scal_word _, _, rfl, iteNS rfl ?_⟩⟩
      have hT9 := s9 _ _ hT8
      refine ⟨_, rfl, _, rfl, _, rfl, x, y, z, true, rfl, gx _ hT9, gy _ hT9, gz _, fun H10 s10 => ⟨_, rfl, _, rfl, _, rfl, x, y, z, rfl, gx _ (s10 _ _ hT9), gy _ (s10 _ _ hT9), gz _, scal_word _, _, rfl, iteNS rfl ?_⟩⟩
      have hT10 := s10 _ _ hT9
      have s10 := s9.trans s10
      refine ⟨_, rfl, rfl, _, rfl, ite2 (fun e => ?_) (fun e => ?_)⟩
      · have e' : V.int r = V.int 5 := of_decide_eq_true e
        injection e' with e'
        obtain rfl := x5 e'
        obtain ⟨u', rfl⟩ := z5 e'
        refine ⟨_, rfl, _, rfl, _, _, rfl, rfl, _, rfl, _, _, _, true, rfl, .inl ⟨_, rfl⟩, .inl ⟨_, rfl⟩, gz _, fun H11 s11 => ⟨rfl, _, rfl, iteNS ?_ ⟨hB8.same (s10.trans s11), kk.trans (But.of (s10.trans s11)), _, _, _, _, _, _, rfl⟩⟩⟩
        show wordV (partsWord (.int n) (.int (65535 - (n : Int))) (.bl u')) = .non
        rw [rest_ok hn]
        rfl
      · exact ⟨hB8.same s10, kk.trans (But.of s10), _, _, _, _, _, _, rfl⟩
    · rintro σ H1 ⟨hB1, k1, u1, u2, u3, u4, u5, u6, rfl⟩
      refine ⟨_, _, _, true, rfl, .inl ⟨_, rfl⟩, .inl ⟨_, rfl⟩, .inr (.inl ⟨_, rfl⟩), fun H2 s2 => ⟨rfl, _, rfl, ?_⟩⟩
      refine iteT ⟨_, _, _, true, rfl, .inl ⟨_, rfl⟩, .inl ⟨_, rfl⟩, .inl ⟨_, rfl⟩, fun H3 s3 => ⟨rfl, ?_⟩⟩
      exact k _ (hB1.same (s2.trans s3)) (k1.trans (But.of (s2.trans s3)))
end
end My
set_option Elab.async false
set_option maxRecDepth 100000
set_option maxHeartbeats 4000000
namespace My
open PySem L2 ClX
def sp_law (K : PySem.W.Frag) : Sp := fun vs H Q _ => ∃ (a : Addr) (ns : List Int), vs = [.ref a] ∧ SqL K H a (ns.map V.int) ∧ ns.length ≤ 63 ∧ ∀ H', Q (.bl true) H'
structure BtL (mg : Str → Option Value) : Prop where
  range : mg "range" = none
  len : mg "len" = none
  max : mg "max" = none
  min : mg "min" = none
section
variable {P : Program} {w : World} {K : PySem.W.Frag} {mg : Str → Option Value} {base : Heap}
abbrev s_law : Stmt := top 27
abbrev N_law : List Str := ["_law_script", "_law_place", "_law_bag_here", "_law_turn"]
theorem sc_law : FnScope N_law ["_law_script"] (defScope s_law) := ⟨rfl, rfl, rfl, by decide +kernel, rfl, by decide +kernel, by decide +kernel⟩
theorem ok_law {f fB fR fW : Addr} {fd fdB fdR fdW : FuncData} (F : Fun K "law" "law" s_law f fd) (T : BtL mg)
    (D_l_bag : Df K mg "_law_bag" ["_law_script", "_law_at"] fB fdB) (G_l_bag : FnOk P w K mg base CX0 2 fB fdB ["_law_script", "_law_at"] (sp_l_bag K))
    (D_l_saying : Df K mg "_law_saying" ["_law_bag_here"] fR fdR) (G_l_saying : FnG P w K mg base CX0 7 fR fdR ["_law_bag_here"] sp_check)
    (D_l_refusals : Df K mg "_law_refusals" ["_law_bag_here"] fW fdW) (G_l_refusals : FnOk P w K mg base CX0 8 fW fdW ["_law_bag_here"] sp_check) :
    FnG P w K mg base CX0 9 f fd ["_law_script"] (sp_law K) := by
  refine My.Fun.okG F sc_law (fun vs H Q E h => ?_) (fun cdv A outer s H vs Q E hG hr h => ?_)
  · obtain ⟨a, ns, rfl, _⟩ := h
    rfl
  · obtain ⟨a, ns, rfl, hS, hl, k⟩ := h
    refine ⟨_, (pss_cons (ps_for PassesOwn.never rfl (pi_range1 (by rfl) T.range (pa_cons (pe_callB (call_max2 rfl) (by rfl) T.max (by decide +kernel) (pa_cons pe_int (pa_cons (pe_callB (call_min2 rfl) (by rfl) T.min (by decide +kernel) (pa_cons pe_int (pa_cons (pe_callB call_len_seq (by rfl) T.len (by decide +kernel) (pa_cons (pv 0) pa_nil)) pa_nil))) pa_nil))) pa_nil)) (pg_name (i := 1) sc_law.nd rfl (Or.inl rfl)) (pss_cons (ps_set (i := 2) sc_law.nd rfl (Or.inl rfl) (pe_call G_l_bag (hr.mono (by decide)) (by rfl) D_l_bag.g D_l_bag.kp D_l_bag.b .nil pass0 (pa_cons (pv 0) (pa_cons (pv 1) pa_nil))))
        (pss_cons (ps_for PassesOwn.never rfl (pi_range1 (by rfl) T.range (pa_cons pe_int pa_nil)) (pg_name (i := 3) sc_law.nd rfl (Or.inl rfl)) (pss_one (ps_if (pt_not (pt_val (pe_callG G_l_saying hG (hr.mono (by decide)) (by rfl) D_l_saying.g D_l_saying.kp D_l_saying.b (pa_cons (pv 2) pa_nil)))) (pss_one (ps_ret pe_bl)) pss_nil)))
        (pss_one (ps_if (pt_not (pt_val (pe_call G_l_refusals (hr.mono (by decide)) (by rfl) D_l_refusals.g D_l_refusals.kp D_l_refusals.b .nil pass0 (pa_cons (pv 2) pa_nil)))) (pss_one (ps_ret pe_bl)) pss_nil)))))
        (pss_one (ps_ret pe_bl))), ?_⟩
    refine ⟨_, rfl, _, _, rfl, .inl hS, _, _, rfl, ?_⟩
    refine ⟨_, _, rfl, ?_⟩
    rw [List.length_map]
    refine ⟨_, rfl, ?_, ?_, ?_⟩
    · split <;> split <;> omega
    · split <;> split <;> omega
    generalize hn : (if (if ((ns.length : Nat) : Int) < 4 then ((ns.length : Nat) : Int) else 4) > 1 then (if ((ns.length : Nat) : Int) < 4 then ((ns.length : Nat) : Int) else 4) else 1 : Int).toNat = n
    have hn4 : n ≤ 4 := by
      rw [← hn]
      split <;> split <;> omega
    refine for_range (lo := 0) (n := n) (fun i σ H' => Same H H' ∧ ∃ u v w, σ = [some (.ref a), u, v, w]) ⟨Same.refl H, _, _, _, rfl⟩ ?_ ?_
    · rintro i σ H' hi ⟨s1, u, v, w, rfl⟩
      refine ⟨_, rfl, _, rfl, a, ns, _, rfl, s1.seq hS, hl, (by omega), (by omega), fun b H1 hb s2 hB => ?_⟩
      have nb : H b = none := s1.free hb
      have t1 : Same H H1 := s1.trans s2
      refine ⟨4, rfl, by decide, by decide, for_range (lo := 0) (n := 4) (fun i σ H' => Same H H' ∧ Bag H' b ∧ ∃ x y, σ = [some (.ref a), x, some (.ref b), y]) ⟨t1, hB, _, _, rfl⟩ ?_ ?_⟩
      · rintro i σ H2 hi ⟨t2, hB2, x, y, rfl⟩
        refine ⟨_, rfl, b, rfl, hB2, fun H3 hB3 k3 => ⟨true, rfl, iteF ?_⟩⟩
        exact ⟨But.toSame nb t2 k3, hB3, _, _, rfl⟩
      · rintro σ H2 ⟨t2, hB2, x, y, rfl⟩
        refine ⟨_, rfl, b, rfl, hB2, fun H3 hB3 k3 => ⟨true, rfl, iteF ?_⟩⟩
        exact ⟨But.toSame nb t2 k3, _, _, _, rfl⟩
    · rintro σ H' ⟨s1, u, v, w, rfl⟩
      exact k H'
end
end My
set_option Elab.async false
set_option maxRecDepth 100000
set_option maxHeartbeats 4000000
namespace My
open PySem L2 ClX
theorem fund_mk {K : PySem.W.Frag} {x qual : Str} {st : Stmt} {f T : Addr} {oc : Value} {od an : Option Addr} {osl tsl : Array (Option Value)} {kV doc pm cdv ct tc : Value} {td : Option Addr} {tn : Nat}
    (l : K.lookup f = some ⟨oc, od, .func (PySem.W.fnOf x qual (defArgs st) (defBody st) (defScope st) (.ref T) kV doc pm an cdv ct), osl⟩) (c : PySem.W.codeIn K cdv qual = true) (k : PySem.W.keepIn K (.ref f) = true) (d : K.lookup T = some ⟨tc, td, .seq #[.bool true] tn, tsl⟩) :
    FunD K x qual (defArgs st) (defBody st) (defScope st) [.bl true] [] f (PySem.W.fnOf x qual (defArgs st) (defBody st) (defScope st) (.ref T) kV doc pm an cdv ct) :=
  ⟨⟨oc, od, .ref T, kV, doc, pm, an, cdv, ct, osl, rfl, l, c, .inr ⟨(fun z => nomatch z), T, _, [.bool true], tn, rfl, d, rfl, .cons rfl .nil⟩, .inl rfl⟩, k⟩
theorem binds_full {K : PySem.W.Frag} {fd : FuncData} {ps : List Str} (h : ∃ ds, Vals ([V.bl true].drop 1) ds ∧ Binds K fd ps ds) : Binds K fd ps [] := by
  obtain ⟨ds, v, b⟩ := h
  cases v
  exact b
section
variable {K : PySem.W.Frag} {f : Addr} {fd : FuncData}
theorem init_full (F : FunD K "__init__" "Saying.__init__" (defArgs s_Saying_init) (defBody s_Saying_init) (defScope s_Saying_init) [.bl true] [] f fd) : Binds K fd psI [] :=
  binds_full (F.binds1 (ps := psI) 4 1 (fun z => nomatch z) rfl fun T kV doc pm an cdv ct us its h1 h2 => match us, its, h1, h2 with | [_, _, _, _], [_], _, _ => ⟨_, rfl, rfl⟩)
theorem init_def (F : FunD K "__init__" "Saying.__init__" (defArgs s_Saying_init) (defBody s_Saying_init) (defScope s_Saying_init) [.bl true] [] f fd) : ∃ ds, Vals [V.bl true] ds ∧ Binds K fd psI ds :=
  F.binds1 (ps := psI) 3 0 (fun z => nomatch z) rfl fun T kV doc pm an cdv ct us its h1 h2 => match us, its, h1, h2 with | [_, _, _], [_], _, _ => ⟨_, rfl, rfl⟩
theorem init_kw (F : FunD K "__init__" "Saying.__init__" (defArgs s_Saying_init) (defBody s_Saying_init) (defScope s_Saying_init) [.bl true] [] f fd) : ∃ gg, KBn K fd psI 2 ["then", "usual"] gg (fun vs zs => vs ++ zs) := by
  obtain ⟨its, k⟩ := F.kbindsD (ps := psI) 2 ["then", "usual"] (fun us _ ws => us ++ ws) (fun z => nomatch z) (fun r1 _ r3 => r1.append r3) fun T kV doc pm an cdv ct us its ws h1 h2 h3 => match us, its, ws, h1, h2, h3 with | [_, _], [_], [_, _], _, _, _ => ⟨_, rfl, rfl⟩
  exact ⟨_, k⟩
theorem of_full (F : FunD K "of_days" "Saying.of_days" (defArgs s_Saying_of_days) (defBody s_Saying_of_days) (defScope s_Saying_of_days) [.bl true] [] f fd) : Binds K fd psO [] :=
  binds_full (F.binds1 (ps := psO) 4 1 (fun z => nomatch z) rfl fun T kV doc pm an cdv ct us its h1 h2 => match us, its, h1, h2 with | [_, _, _, _], [_], _, _ => ⟨_, rfl, rfl⟩)
theorem of_def (F : FunD K "of_days" "Saying.of_days" (defArgs s_Saying_of_days) (defBody s_Saying_of_days) (defScope s_Saying_of_days) [.bl true] [] f fd) : ∃ ds, Vals [V.bl true] ds ∧ Binds K fd psO ds :=
  F.binds1 (ps := psO) 3 0 (fun z => nomatch z) rfl fun T kV doc pm an cdv ct us its h1 h2 => match us, its, h1, h2 with | [_, _, _], [_], _, _ => ⟨_, rfl, rfl⟩
theorem of_kw (F : FunD K "of_days" "Saying.of_days" (defArgs s_Saying_of_days) (defBody s_Saying_of_days) (defScope s_Saying_of_days) [.bl true] [] f fd) : ∃ gg, KBn K fd psO 3 ["usual"] gg (fun vs zs => vs ++ zs) := by
  obtain ⟨its, k⟩ := F.kbindsD (ps := psO) 3 ["usual"] (fun us _ ws => us ++ ws) (fun z => nomatch z) (fun r1 _ r3 => r1.append r3) fun T kV doc pm an cdv ct us its ws h1 h2 h3 => match us, its, ws, h1, h2, h3 with | [_, _, _], [_], [_], _, _, _ => ⟨_, rfl, rfl⟩
  exact ⟨_, k⟩
end
theorem kit_not {K : PySem.W.Frag} {C : Addr} {T : String} (h1 : PySem.W.isClsIn K C = true) (h2 : PySem.W.typeIn K (.ref C) = some (.type "type")) (h3 : PySem.W.subIn K (.type T) (.ref C) = some false) : PySem.W.kitOne K (.type T) (.ref C) = some false := by
  unfold PySem.W.kitOne
  rw [if_neg (by simp)]
  show (if ((PySem.W.clsIn K C).isSome && PySem.W.typeIn K (.ref C) == some (.type "type")) = true then PySem.W.subIn K (.type T) (.ref C) else none) = some false
  have h4 : (PySem.W.clsIn K C).isSome = true := h1
  rw [if_pos (by rw [h4, h2]; rfl)]
  exact h3
end My
set_option Elab.async false
set_option maxRecDepth 100000
set_option maxHeartbeats 4000000
namespace My
open PySem L2 ClX
theorem exm_same {K : PySem.W.Frag} {S : Addr} (h1 : PySem.W.subIn K (.ref S) (.type "BaseException") = some true) (h2 : PySem.W.isClsIn K S = true) (h3 : PySem.W.typeIn K (.ref S) = some (.type "type")) (h4 : PySem.W.subIn K (.ref S) (.ref S) = some true) :
    PySem.W.exmOne K (.ref S) (.ref S) = some true := by
  have e1 : (PySem.W.subIn K (.ref S) (.type "BaseException") == some true) = true := by rw [h1]; rfl
  have e2 : ((PySem.W.clsIn K S).isSome && PySem.W.typeIn K (.ref S) == some (.type "type")) = true := by
    have h5 : (PySem.W.clsIn K S).isSome = true := h2
    rw [h5, h3]; rfl
  show (if _ = true then (if _ = true then _ else none) else none) = some true
  rw [if_pos e1, if_pos e2]
  exact h4
theorem all_mk {P : Program} {w : World} {K : PySem.W.Frag} {h : Heap} {mg : Str → Option Value} {fa : Addr} (X : K.In h) (G : h.Ns mainGlobals mg) (hfa : mg "law" = some (.ref fa))
    {fX : Addr} {odX anX : Option Addr} {slX : Array (Option Value)} {ocX kVX dcX pmX cdX ctX : Value}
    (aX : PySem.W.nsIn K mainGlobals "is_number" = some (some (.ref fX)))
    (lX : K.lookup fX = some ⟨ocX, odX, .func (PySem.W.fnOf "is_number" "is_number" (defArgs s_is_number) (defBody s_is_number) (defScope s_is_number) .none kVX dcX pmX anX cdX ctX), slX⟩)
    (cX : PySem.W.codeIn K cdX "is_number" = true) (kX : PySem.W.keepIn K (.ref fX) = true)
    {f0 : Addr}
    {od0 an0 : Option Addr} {sl0 : Array (Option Value)} {oc0 kV0 dc0 pm0 cd0 ct0 : Value}
    {f1 : Addr}
    {od1 an1 : Option Addr} {sl1 : Array (Option Value)} {oc1 kV1 dc1 pm1 cd1 ct1 : Value}
    {f2 : Addr}
    {od2 an2 : Option Addr} {sl2 : Array (Option Value)} {oc2 kV2 dc2 pm2 cd2 ct2 : Value}
    {f3 : Addr}
    {od3 an3 : Option Addr} {sl3 : Array (Option Value)} {oc3 kV3 dc3 pm3 cd3 ct3 : Value}
    {f4 : Addr}
    {od4 an4 : Option Addr} {sl4 : Array (Option Value)} {oc4 kV4 dc4 pm4 cd4 ct4 : Value}
    {f5 : Addr}
    {od5 an5 : Option Addr} {sl5 : Array (Option Value)} {oc5 kV5 dc5 pm5 cd5 ct5 : Value}
    {f6 : Addr}
    {od6 an6 : Option Addr} {sl6 : Array (Option Value)} {oc6 kV6 dc6 pm6 cd6 ct6 : Value}
    {f7 : Addr}
    {od7 an7 : Option Addr} {sl7 : Array (Option Value)} {oc7 kV7 dc7 pm7 cd7 ct7 : Value}
    {f8 : Addr}
    {od8 an8 : Option Addr} {sl8 : Array (Option Value)} {oc8 kV8 dc8 pm8 cd8 ct8 : Value}
    {f9 : Addr}
    {od9 an9 : Option Addr} {sl9 : Array (Option Value)} {oc9 kV9 dc9 pm9 cd9 ct9 : Value}
    {f10 : Addr}
    {od10 an10 : Option Addr} {sl10 : Array (Option Value)} {oc10 kV10 dc10 pm10 cd10 ct10 : Value}
    {f11 : Addr}
    {od11 an11 : Option Addr} {sl11 : Array (Option Value)} {oc11 kV11 dc11 pm11 cd11 ct11 : Value}
    {f12 : Addr}
    {od12 an12 : Option Addr} {sl12 : Array (Option Value)} {oc12 kV12 dc12 pm12 cd12 ct12 : Value}
    {f13 : Addr}
    {od13 an13 : Option Addr} {sl13 : Array (Option Value)} {oc13 kV13 dc13 pm13 cd13 ct13 : Value}
    {f14 : Addr}
    {od14 an14 : Option Addr} {sl14 : Array (Option Value)} {oc14 kV14 dc14 pm14 cd14 ct14 : Value}
    {f15 : Addr}
    {od15 an15 : Option Addr} {sl15 : Array (Option Value)} {oc15 kV15 dc15 pm15 cd15 ct15 : Value}
    {f16 : Addr}
    {od16 an16 : Option Addr} {sl16 : Array (Option Value)} {oc16 kV16 dc16 pm16 cd16 ct16 : Value}
    {CE0 : Addr} {nmE0 qE0 : Str} {NE0 : Addr} {bsE0 : List Value} {snE0 : List Str} {subE0 : List Value} {abE0 : Bool} {colE0 : Option Bool} {ddE0 : Option Addr} {m0E0 m1E0 m2E0 m3E0 m5E0 : Option Value} {iE0 : Addr}
    {BE0_0 : Addr}
    {odE0 anE0 : Option Addr} {slE0 : Array (Option Value)} {ocE0 kVE0 dcE0 pmE0 cdE0 ctE0 : Value}
    {CE1 : Addr} {nmE1 qE1 : Str} {NE1 : Addr} {bsE1 : List Value} {snE1 : List Str} {subE1 : List Value} {abE1 : Bool} {colE1 : Option Bool} {ddE1 : Option Addr} {m0E1 m1E1 m2E1 m3E1 m5E1 : Option Value} {iE1 : Addr}
    {BE1_0 : Addr}
    {odE1 anE1 : Option Addr} {slE1 : Array (Option Value)} {ocE1 kVE1 dcE1 pmE1 cdE1 ctE1 : Value}
    {C : Addr}
    {fI TI : Addr} {tcI : Value} {tdI : Option Addr} {tnI : Nat} {tsI : Array (Option Value)}
    {fO pO TO : Addr} {tcO : Value} {tdO : Option Addr} {tnO : Nat} {tsO : Array (Option Value)} {restO : List Value}
    {fC fF fN fE : Addr} {t1 t2 : Tok}
    {odxI anxI : Option Addr} {slxI : Array (Option Value)} {ocxI kVxI dcxI pmxI cdxI ctxI : Value}
    {odxO anxO : Option Addr} {slxO : Array (Option Value)} {ocxO kVxO dcxO pmxO cdxO ctxO : Value}
    {odxC anxC : Option Addr} {slxC : Array (Option Value)} {ocxC kVxC dcxC pmxC cdxC ctxC : Value}
    {odxF anxF : Option Addr} {slxF : Array (Option Value)} {ocxF kVxF dcxF pmxF cdxF ctxF : Value}
    {odxN anxN : Option Addr} {slxN : Array (Option Value)} {ocxN kVxN dcxN pmxN cdxN ctxN : Value}
    {odxE anxE : Option Addr} {slxE : Array (Option Value)} {ocxE kVxE dcxE pmxE cdxE ctxE : Value}
    (a0 : PySem.W.nsIn K mainGlobals "is_whole" = some (some (.ref f0)))
    (l0 : K.lookup f0 = some ⟨oc0, od0, .func (PySem.W.fnOf "is_whole" "is_whole" (defArgs s_is_whole) (defBody s_is_whole) (defScope s_is_whole) .none kV0 dc0 pm0 an0 cd0 ct0), sl0⟩)
    (c0 : PySem.W.codeIn K cd0 "is_whole" = true)
    (k0 : PySem.W.keepIn K (.ref f0) = true)
    (a1 : PySem.W.nsIn K mainGlobals "is_day_set" = some (some (.ref f1)))
    (l1 : K.lookup f1 = some ⟨oc1, od1, .func (PySem.W.fnOf "is_day_set" "is_day_set" (defArgs s_is_day_set) (defBody s_is_day_set) (defScope s_is_day_set) .none kV1 dc1 pm1 an1 cd1 ct1), sl1⟩)
    (c1 : PySem.W.codeIn K cd1 "is_day_set" = true)
    (k1 : PySem.W.keepIn K (.ref f1) = true)
    (a2 : PySem.W.nsIn K mainGlobals "verdict_on" = some (some (.ref f2)))
    (l2 : K.lookup f2 = some ⟨oc2, od2, .func (PySem.W.fnOf "verdict_on" "verdict_on" (defArgs s_verdict_on) (defBody s_verdict_on) (defScope s_verdict_on) .none kV2 dc2 pm2 an2 cd2 ct2), sl2⟩)
    (c2 : PySem.W.codeIn K cd2 "verdict_on" = true)
    (k2 : PySem.W.keepIn K (.ref f2) = true)
    (a3 : PySem.W.nsIn K mainGlobals "_law_bag" = some (some (.ref f3)))
    (l3 : K.lookup f3 = some ⟨oc3, od3, .func (PySem.W.fnOf "_law_bag" "_law_bag" (defArgs s_l_bag) (defBody s_l_bag) (defScope s_l_bag) .none kV3 dc3 pm3 an3 cd3 ct3), sl3⟩)
    (c3 : PySem.W.codeIn K cd3 "_law_bag" = true)
    (k3 : PySem.W.keepIn K (.ref f3) = true)
    (a4 : PySem.W.nsIn K mainGlobals "_law_take" = some (some (.ref f4)))
    (l4 : K.lookup f4 = some ⟨oc4, od4, .func (PySem.W.fnOf "_law_take" "_law_take" (defArgs s_l_take) (defBody s_l_take) (defScope s_l_take) .none kV4 dc4 pm4 an4 cd4 ct4), sl4⟩)
    (c4 : PySem.W.codeIn K cd4 "_law_take" = true)
    (k4 : PySem.W.keepIn K (.ref f4) = true)
    (a5 : PySem.W.nsIn K mainGlobals "_law_of" = some (some (.ref f5)))
    (l5 : K.lookup f5 = some ⟨oc5, od5, .func (PySem.W.fnOf "_law_of" "_law_of" (defArgs s_l_of) (defBody s_l_of) (defScope s_l_of) .none kV5 dc5 pm5 an5 cd5 ct5), sl5⟩)
    (c5 : PySem.W.codeIn K cd5 "_law_of" = true)
    (k5 : PySem.W.keepIn K (.ref f5) = true)
    (a6 : PySem.W.nsIn K mainGlobals "_law_set" = some (some (.ref f6)))
    (l6 : K.lookup f6 = some ⟨oc6, od6, .func (PySem.W.fnOf "_law_set" "_law_set" (defArgs s_l_set) (defBody s_l_set) (defScope s_l_set) .none kV6 dc6 pm6 an6 cd6 ct6), sl6⟩)
    (c6 : PySem.W.codeIn K cd6 "_law_set" = true)
    (k6 : PySem.W.keepIn K (.ref f6) = true)
    (a7 : PySem.W.nsIn K mainGlobals "_law_rows" = some (some (.ref f7)))
    (l7 : K.lookup f7 = some ⟨oc7, od7, .func (PySem.W.fnOf "_law_rows" "_law_rows" (defArgs s_l_rows) (defBody s_l_rows) (defScope s_l_rows) .none kV7 dc7 pm7 an7 cd7 ct7), sl7⟩)
    (c7 : PySem.W.codeIn K cd7 "_law_rows" = true)
    (k7 : PySem.W.keepIn K (.ref f7) = true)
    (a8 : PySem.W.nsIn K mainGlobals "_law_due" = some (some (.ref f8)))
    (l8 : K.lookup f8 = some ⟨oc8, od8, .func (PySem.W.fnOf "_law_due" "_law_due" (defArgs s_l_due) (defBody s_l_due) (defScope s_l_due) .none kV8 dc8 pm8 an8 cd8 ct8), sl8⟩)
    (c8 : PySem.W.codeIn K cd8 "_law_due" = true)
    (k8 : PySem.W.keepIn K (.ref f8) = true)
    (a9 : PySem.W.nsIn K mainGlobals "_law_is_whole" = some (some (.ref f9)))
    (l9 : K.lookup f9 = some ⟨oc9, od9, .func (PySem.W.fnOf "_law_is_whole" "_law_is_whole" (defArgs s_l_is_whole) (defBody s_l_is_whole) (defScope s_l_is_whole) .none kV9 dc9 pm9 an9 cd9 ct9), sl9⟩)
    (c9 : PySem.W.codeIn K cd9 "_law_is_whole" = true)
    (k9 : PySem.W.keepIn K (.ref f9) = true)
    (a10 : PySem.W.nsIn K mainGlobals "_law_word" = some (some (.ref f10)))
    (l10 : K.lookup f10 = some ⟨oc10, od10, .func (PySem.W.fnOf "_law_word" "_law_word" (defArgs s_l_word) (defBody s_l_word) (defScope s_l_word) .none kV10 dc10 pm10 an10 cd10 ct10), sl10⟩)
    (c10 : PySem.W.codeIn K cd10 "_law_word" = true)
    (k10 : PySem.W.keepIn K (.ref f10) = true)
    (a11 : PySem.W.nsIn K mainGlobals "_law_parts_word" = some (some (.ref f11)))
    (l11 : K.lookup f11 = some ⟨oc11, od11, .func (PySem.W.fnOf "_law_parts_word" "_law_parts_word" (defArgs s_l_parts_word) (defBody s_l_parts_word) (defScope s_l_parts_word) .none kV11 dc11 pm11 an11 cd11 ct11), sl11⟩)
    (c11 : PySem.W.codeIn K cd11 "_law_parts_word" = true)
    (k11 : PySem.W.keepIn K (.ref f11) = true)
    (a12 : PySem.W.nsIn K mainGlobals "_law_made" = some (some (.ref f12)))
    (l12 : K.lookup f12 = some ⟨oc12, od12, .func (PySem.W.fnOf "_law_made" "_law_made" (defArgs s_l_made) (defBody s_l_made) (defScope s_l_made) .none kV12 dc12 pm12 an12 cd12 ct12), sl12⟩)
    (c12 : PySem.W.codeIn K cd12 "_law_made" = true)
    (k12 : PySem.W.keepIn K (.ref f12) = true)
    (a13 : PySem.W.nsIn K mainGlobals "_law_on" = some (some (.ref f13)))
    (l13 : K.lookup f13 = some ⟨oc13, od13, .func (PySem.W.fnOf "_law_on" "_law_on" (defArgs s_l_on) (defBody s_l_on) (defScope s_l_on) .none kV13 dc13 pm13 an13 cd13 ct13), sl13⟩)
    (c13 : PySem.W.codeIn K cd13 "_law_on" = true)
    (k13 : PySem.W.keepIn K (.ref f13) = true)
    (a14 : PySem.W.nsIn K mainGlobals "_law_saying" = some (some (.ref f14)))
    (l14 : K.lookup f14 = some ⟨oc14, od14, .func (PySem.W.fnOf "_law_saying" "_law_saying" (defArgs s_l_saying) (defBody s_l_saying) (defScope s_l_saying) .none kV14 dc14 pm14 an14 cd14 ct14), sl14⟩)
    (c14 : PySem.W.codeIn K cd14 "_law_saying" = true)
    (k14 : PySem.W.keepIn K (.ref f14) = true)
    (a15 : PySem.W.nsIn K mainGlobals "_law_refusals" = some (some (.ref f15)))
    (l15 : K.lookup f15 = some ⟨oc15, od15, .func (PySem.W.fnOf "_law_refusals" "_law_refusals" (defArgs s_l_refusals) (defBody s_l_refusals) (defScope s_l_refusals) .none kV15 dc15 pm15 an15 cd15 ct15), sl15⟩)
    (c15 : PySem.W.codeIn K cd15 "_law_refusals" = true)
    (k15 : PySem.W.keepIn K (.ref f15) = true)
    (a16 : PySem.W.nsIn K mainGlobals "law" = some (some (.ref f16)))
    (l16 : K.lookup f16 = some ⟨oc16, od16, .func (PySem.W.fnOf "law" "law" (defArgs s_law) (defBody s_law) (defScope s_law) .none kV16 dc16 pm16 an16 cd16 ct16), sl16⟩)
    (c16 : PySem.W.codeIn K cd16 "law" = true)
    (k16 : PySem.W.keepIn K (.ref f16) = true)
    (eaE0 : PySem.W.nsIn K mainGlobals "NoDay" = some (some (.ref CE0)))
    (exE0 : K.lookup CE0 = some (excClassObj nmE0 qE0 CE0 NE0 bsE0 [.ref BE0_0, .type "ValueError", .type "Exception", .type "BaseException", .type "object"] true snE0 subE0 abE0 colE0 ddE0 m0E0 m1E0 m2E0 m3E0 m5E0 "ValueError.__new__"))
    (esE0 : PySem.W.findIn K (.ref CE0) "__setattr__" = some (some (.builtin "object.__setattr__")))
    (eiE0 : PySem.W.findIn K (.ref CE0) "__init__" = some (some (.ref iE0)))
    (etE0 : PySem.W.typeIn K (.ref iE0) = some (.type "function"))
    (lE0 : K.lookup iE0 = some ⟨ocE0, odE0, .func (PySem.W.fnOf "__init__" "NoDay.__init__" (defArgs s_NoDay_init) (defBody s_NoDay_init) (defScope s_NoDay_init) .none kVE0 dcE0 pmE0 anE0 cdE0 ctE0), slE0⟩)
    (cE0 : PySem.W.codeIn K cdE0 "NoDay.__init__" = true)
    (kE0 : PySem.W.keepIn K (.ref iE0) = true)
    (ekE0 : PySem.W.keepIn K (.ref CE0) = true)
    (eeE0 : PySem.W.subIn K (.ref CE0) (.type "BaseException") = some true)
    (etyE0 : PySem.W.typeIn K (.ref CE0) = some (.type "type"))
    (eicE0 : PySem.W.isClsIn K CE0 = true)
    (esuE0 : PySem.W.subIn K (.ref CE0) (.ref CE0) = some true)
    (egaE0 : PySem.W.findIn K (.ref CE0) "__getattribute__" = some (some (.builtin "BaseException.__getattribute__")))
    (eggE0 : PySem.W.findIn K (.ref CE0) "__getattr__" = some none)
    (ehdE0 : PySem.W.hasDictIn K CE0 = true)
    (enoE0 : PySem.W.findIn K (.ref CE0) "day" = some none)
    (eaE1 : PySem.W.nsIn K mainGlobals "BadSaying" = some (some (.ref CE1)))
    (exE1 : K.lookup CE1 = some (excClassObj nmE1 qE1 CE1 NE1 bsE1 [.ref BE1_0, .type "ValueError", .type "Exception", .type "BaseException", .type "object"] true snE1 subE1 abE1 colE1 ddE1 m0E1 m1E1 m2E1 m3E1 m5E1 "ValueError.__new__"))
    (esE1 : PySem.W.findIn K (.ref CE1) "__setattr__" = some (some (.builtin "object.__setattr__")))
    (eiE1 : PySem.W.findIn K (.ref CE1) "__init__" = some (some (.ref iE1)))
    (etE1 : PySem.W.typeIn K (.ref iE1) = some (.type "function"))
    (lE1 : K.lookup iE1 = some ⟨ocE1, odE1, .func (PySem.W.fnOf "__init__" "BadSaying.__init__" (defArgs s_BadSaying_init) (defBody s_BadSaying_init) (defScope s_BadSaying_init) .none kVE1 dcE1 pmE1 anE1 cdE1 ctE1), slE1⟩)
    (cE1 : PySem.W.codeIn K cdE1 "BadSaying.__init__" = true)
    (kE1 : PySem.W.keepIn K (.ref iE1) = true)
    (ekE1 : PySem.W.keepIn K (.ref CE1) = true)
    (eeE1 : PySem.W.subIn K (.ref CE1) (.type "BaseException") = some true)
    (etyE1 : PySem.W.typeIn K (.ref CE1) = some (.type "type"))
    (eicE1 : PySem.W.isClsIn K CE1 = true)
    (esuE1 : PySem.W.subIn K (.ref CE1) (.ref CE1) = some true)
    (egaE1 : PySem.W.findIn K (.ref CE1) "__getattribute__" = some (some (.builtin "BaseException.__getattribute__")))
    (eggE1 : PySem.W.findIn K (.ref CE1) "__getattr__" = some none)
    (ehdE1 : PySem.W.hasDictIn K CE1 = true)
    (enoE1 : PySem.W.findIn K (.ref CE1) "what" = some none)
    (z_len : PySem.W.nsIn K mainGlobals "len" = some none)
    (z_abs : PySem.W.nsIn K mainGlobals "abs" = some none)
    (z_int : PySem.W.nsIn K mainGlobals "int" = some none)
    (z_enumerate : PySem.W.nsIn K mainGlobals "enumerate" = some none)
    (z_range : PySem.W.nsIn K mainGlobals "range" = some none)
    (z_isinstance : PySem.W.nsIn K mainGlobals "isinstance" = some none)
    (z_bool : PySem.W.nsIn K mainGlobals "bool" = some none)
    (z_sum : PySem.W.nsIn K mainGlobals "sum" = some none)
    (z_max : PySem.W.nsIn K mainGlobals "max" = some none)
    (z_min : PySem.W.nsIn K mainGlobals "min" = some none)
    (z_repr : PySem.W.nsIn K mainGlobals "repr" = some none)
    (h1 : PySem.W.nsIn K mainGlobals "HIGHEST_DAY_SET" = some (some (.int 65535 t1)))
    (h2 : PySem.W.nsIn K mainGlobals "HIGHEST_DAY" = some (some (.int 15 t2)))
    (sC : PySem.W.nsIn K mainGlobals "Saying" = some (some (.ref C)))
    (sPg : PySem.W.plainGet K C Str.empty = true)
    (sHd : PySem.W.hasDictIn K C = true)
    (sPo : PySem.W.plainOver K C = true)
    (sSa : PySem.W.findIn K (.ref C) "__setattr__" = some (some (.builtin "object.__setattr__")))
    (nW : PySem.W.findIn K (.ref C) "where" = some none)
    (nT : PySem.W.findIn K (.ref C) "then" = some none)
    (nU : PySem.W.findIn K (.ref C) "usual" = some none)
    (nC : PySem.W.findIn K (.ref C) "confirm" = some none)
    (nB : PySem.W.findIn K (.ref C) "broken" = some none)
    (nL : PySem.W.findIn K (.ref C) "low" = some none)
    (nH : PySem.W.findIn K (.ref C) "high" = some none)
    (nS : PySem.W.findIn K (.ref C) "step" = some none)
    (sHa : PySem.W.findIn K (.ref C) "__class__" = some (some (.builtin "object.__class__")))
    (sHn : PySem.W.specialIn K (.builtin "object.__class__") "__get__" = some (some (.builtin "getset_descriptor.__get__")))
    (sTk : PySem.W.takesIn K (.builtin "object.__class__") = some true)
    (sHm : PySem.W.mroIn K C (.type "object") = some true)
    (sIc : PySem.W.isClsIn K C = true)
    (sTy : PySem.W.typeIn K (.ref C) = some (.type "type"))
    (sNf : PySem.W.subIn K (.type "tuple") (.ref C) = some false)
    (sEq : PySem.W.findIn K (.ref C) "__eq__" = some (some (.ref fE)))
    (sFe : PySem.W.isFn K (.ref fE) = true)
    (mMk : PySem.W.makesIn K C = true)
    (mIn : PySem.W.findIn K (.ref C) "__init__" = some (some (.ref fI)))
    (mFn : PySem.W.isFn K (.ref fI) = true)
    (mKp : PySem.W.keepIn K (.ref C) = true)
    (maC : PySem.W.findIn K (.ref C) "contrary" = some (some (.ref fC)))
    (mfC : PySem.W.isFn K (.ref fC) = true)
    (maF : PySem.W.findIn K (.ref C) "flipped" = some (some (.ref fF)))
    (mfF : PySem.W.isFn K (.ref fF) = true)
    (maN : PySem.W.findIn K (.ref C) "on" = some (some (.ref fN)))
    (mfN : PySem.W.isFn K (.ref fN) = true)
    (lxI : K.lookup fI = some ⟨ocxI, odxI, .func (PySem.W.fnOf "__init__" "Saying.__init__" (defArgs s_Saying_init) (defBody s_Saying_init) (defScope s_Saying_init) (.ref TI) kVxI dcxI pmxI anxI cdxI ctxI), slxI⟩)
    (cxI : PySem.W.codeIn K cdxI "Saying.__init__" = true)
    (kxI : PySem.W.keepIn K (.ref fI) = true)
    (dxI : K.lookup TI = some ⟨tcI, tdI, .seq #[.bool true] tnI, tsI⟩)
    (rRd : PySem.W.readsIn K C (.type "type") = true)
    (rGa : PySem.W.specialIn K (.ref C) "__getattribute__" = some (some (.builtin "type.__getattribute__")))
    (rAt : PySem.W.findCls K (.ref C) (.type "type") "of_days" = some (.get (.builtin "classmethod.__get__") (.ref pO) .none (.ref C)))
    (rRc : PySem.W.recIn K pO "classmethod" = some (.ref fO :: restO))
    (rFi : PySem.W.fnIn K fO = true)
    (lxO : K.lookup fO = some ⟨ocxO, odxO, .func (PySem.W.fnOf "of_days" "Saying.of_days" (defArgs s_Saying_of_days) (defBody s_Saying_of_days) (defScope s_Saying_of_days) (.ref TO) kVxO dcxO pmxO anxO cdxO ctxO), slxO⟩)
    (cxO : PySem.W.codeIn K cdxO "Saying.of_days" = true)
    (kxO : PySem.W.keepIn K (.ref fO) = true)
    (dxO : K.lookup TO = some ⟨tcO, tdO, .seq #[.bool true] tnO, tsO⟩)
    (lxC : K.lookup fC = some ⟨ocxC, odxC, .func (PySem.W.fnOf "contrary" "Saying.contrary" (defArgs s_Saying_contrary) (defBody s_Saying_contrary) (defScope s_Saying_contrary) .none kVxC dcxC pmxC anxC cdxC ctxC), slxC⟩)
    (cxC : PySem.W.codeIn K cdxC "Saying.contrary" = true)
    (kxC : PySem.W.keepIn K (.ref fC) = true)
    (lxF : K.lookup fF = some ⟨ocxF, odxF, .func (PySem.W.fnOf "flipped" "Saying.flipped" (defArgs s_Saying_flipped) (defBody s_Saying_flipped) (defScope s_Saying_flipped) .none kVxF dcxF pmxF anxF cdxF ctxF), slxF⟩)
    (cxF : PySem.W.codeIn K cdxF "Saying.flipped" = true)
    (kxF : PySem.W.keepIn K (.ref fF) = true)
    (lxN : K.lookup fN = some ⟨ocxN, odxN, .func (PySem.W.fnOf "on" "Saying.on" (defArgs s_Saying_on) (defBody s_Saying_on) (defScope s_Saying_on) .none kVxN dcxN pmxN anxN cdxN ctxN), slxN⟩)
    (cxN : PySem.W.codeIn K cdxN "Saying.on" = true)
    (kxN : PySem.W.keepIn K (.ref fN) = true)
    (lxE : K.lookup fE = some ⟨ocxE, odxE, .func (PySem.W.fnOf "__eq__" "Saying.__eq__" (defArgs s_Saying_eq) (defBody s_Saying_eq) (defScope s_Saying_eq) .none kVxE dcxE pmxE anxE cdxE ctxE), slxE⟩)
    (cxE : PySem.W.codeIn K cdxE "Saying.__eq__" = true)
    (kxE : PySem.W.keepIn K (.ref fE) = true) :
    ∃ fd : FuncData, (∀ (s : Shared) (v : Value), BindsTo s fd ⟨[v], []⟩ [("_law_script", v)]) ∧ ∀ base : Heap, K.In base → base.Ns mainGlobals mg → FnG P w K mg base CX0 9 fa fd ["_law_script"] (sp_law K) := by
  have e := hfa.symm.trans (PySem.W.mg_of X G a16)
  cases e
  have F_is_number := fun_mk (st := s_is_number) lX cX kX
  have D_is_number : Df K mg "is_number" ["thing"] fX _ := ⟨PySem.W.mg_of X G aX, kX, F_is_number.binds (ps := ["thing"]) fun _ _ _ _ _ _ us hl => match us, hl with | [_], _ => rfl⟩
  have F_is_whole := fun_mk (st := s_is_whole) l0 c0 k0
  have D_is_whole : Df K mg "is_whole" ["thing", "low", "high"] f0 _ := ⟨PySem.W.mg_of X G a0, k0, F_is_whole.binds (ps := ["thing", "low", "high"]) fun _ _ _ _ _ _ us hl => match us, hl with | [_, _, _], _ => rfl⟩
  have F_is_day_set := fun_mk (st := s_is_day_set) l1 c1 k1
  have D_is_day_set : Df K mg "is_day_set" ["thing"] f1 _ := ⟨PySem.W.mg_of X G a1, k1, F_is_day_set.binds (ps := ["thing"]) fun _ _ _ _ _ _ us hl => match us, hl with | [_], _ => rfl⟩
  have F_verdict_on := fun_mk (st := s_verdict_on) l2 c2 k2
  have D_verdict_on : Df K mg "verdict_on" ["confirm", "broken", "day"] f2 _ := ⟨PySem.W.mg_of X G a2, k2, F_verdict_on.binds (ps := ["confirm", "broken", "day"]) fun _ _ _ _ _ _ us hl => match us, hl with | [_, _, _], _ => rfl⟩
  have F_l_bag := fun_mk (st := s_l_bag) l3 c3 k3
  have D_l_bag : Df K mg "_law_bag" ["_law_script", "_law_at"] f3 _ := ⟨PySem.W.mg_of X G a3, k3, F_l_bag.binds (ps := ["_law_script", "_law_at"]) fun _ _ _ _ _ _ us hl => match us, hl with | [_, _], _ => rfl⟩
  have F_l_take := fun_mk (st := s_l_take) l4 c4 k4
  have D_l_take : Df K mg "_law_take" ["_law_bag_here", "_law_many"] f4 _ := ⟨PySem.W.mg_of X G a4, k4, F_l_take.binds (ps := ["_law_bag_here", "_law_many"]) fun _ _ _ _ _ _ us hl => match us, hl with | [_, _], _ => rfl⟩
  have F_l_of := fun_mk (st := s_l_of) l5 c5 k5
  have D_l_of : Df K mg "_law_of" ["_law_bag_here", "_law_some"] f5 _ := ⟨PySem.W.mg_of X G a5, k5, F_l_of.binds (ps := ["_law_bag_here", "_law_some"]) fun _ _ _ _ _ _ us hl => match us, hl with | [_, _], _ => rfl⟩
  have F_l_set := fun_mk (st := s_l_set) l6 c6 k6
  have D_l_set : Df K mg "_law_set" ["_law_bag_here"] f6 _ := ⟨PySem.W.mg_of X G a6, k6, F_l_set.binds (ps := ["_law_bag_here"]) fun _ _ _ _ _ _ us hl => match us, hl with | [_], _ => rfl⟩
  have F_l_rows := fun_mk (st := s_l_rows) l7 c7 k7
  have D_l_rows : Df K mg "_law_rows" ["_law_saying_here"] f7 _ := ⟨PySem.W.mg_of X G a7, k7, F_l_rows.binds (ps := ["_law_saying_here"]) fun _ _ _ _ _ _ us hl => match us, hl with | [_], _ => rfl⟩
  have F_l_due := fun_mk (st := s_l_due) l8 c8 k8
  have D_l_due : Df K mg "_law_due" ["_law_where", "_law_then", "_law_usual"] f8 _ := ⟨PySem.W.mg_of X G a8, k8, F_l_due.binds (ps := ["_law_where", "_law_then", "_law_usual"]) fun _ _ _ _ _ _ us hl => match us, hl with | [_, _, _], _ => rfl⟩
  have F_l_is_whole := fun_mk (st := s_l_is_whole) l9 c9 k9
  have D_l_is_whole : Df K mg "_law_is_whole" ["_law_thing", "_law_low", "_law_high"] f9 _ := ⟨PySem.W.mg_of X G a9, k9, F_l_is_whole.binds (ps := ["_law_thing", "_law_low", "_law_high"]) fun _ _ _ _ _ _ us hl => match us, hl with | [_, _, _], _ => rfl⟩
  have F_l_word := fun_mk (st := s_l_word) l10 c10 k10
  have D_l_word : Df K mg "_law_word" ["_law_where", "_law_then", "_law_usual"] f10 _ := ⟨PySem.W.mg_of X G a10, k10, F_l_word.binds (ps := ["_law_where", "_law_then", "_law_usual"]) fun _ _ _ _ _ _ us hl => match us, hl with | [_, _, _], _ => rfl⟩
  have F_l_parts_word := fun_mk (st := s_l_parts_word) l11 c11 k11
  have D_l_parts_word : Df K mg "_law_parts_word" ["_law_confirm", "_law_broken", "_law_usual"] f11 _ := ⟨PySem.W.mg_of X G a11, k11, F_l_parts_word.binds (ps := ["_law_confirm", "_law_broken", "_law_usual"]) fun _ _ _ _ _ _ us hl => match us, hl with | [_, _, _], _ => rfl⟩
  have F_l_made := fun_mk (st := s_l_made) l12 c12 k12
  have D_l_made : Df K mg "_law_made" ["_law_one", "_law_other", "_law_usual", "_law_parts"] f12 _ := ⟨PySem.W.mg_of X G a12, k12, F_l_made.binds (ps := ["_law_one", "_law_other", "_law_usual", "_law_parts"]) fun _ _ _ _ _ _ us hl => match us, hl with | [_, _, _, _], _ => rfl⟩
  have F_l_on := fun_mk (st := s_l_on) l13 c13 k13
  have D_l_on : Df K mg "_law_on" ["_law_saying_here", "_law_due_here"] f13 _ := ⟨PySem.W.mg_of X G a13, k13, F_l_on.binds (ps := ["_law_saying_here", "_law_due_here"]) fun _ _ _ _ _ _ us hl => match us, hl with | [_, _], _ => rfl⟩
  have F_l_saying := fun_mk (st := s_l_saying) l14 c14 k14
  have D_l_saying : Df K mg "_law_saying" ["_law_bag_here"] f14 _ := ⟨PySem.W.mg_of X G a14, k14, F_l_saying.binds (ps := ["_law_bag_here"]) fun _ _ _ _ _ _ us hl => match us, hl with | [_], _ => rfl⟩
  have F_l_refusals := fun_mk (st := s_l_refusals) l15 c15 k15
  have D_l_refusals : Df K mg "_law_refusals" ["_law_bag_here"] f15 _ := ⟨PySem.W.mg_of X G a15, k15, F_l_refusals.binds (ps := ["_law_bag_here"]) fun _ _ _ _ _ _ us hl => match us, hl with | [_], _ => rfl⟩
  have F_law := fun_mk (st := s_law) l16 c16 k16
  have F_NoDay_init := fun_mk (st := s_NoDay_init) lE0 cE0 kE0
  have E_NoDay : ErrF K mg "NoDay" "day" CE0 iE0 _ := ⟨PySem.W.mg_of X G eaE0, ⟨⟨_, _, _, _, _, _, _, _, _, _, _, _, _, _, _, exE0, by rfl⟩, esE0, eeE0, etyE0, ekE0⟩, eiE0, etE0, F_NoDay_init.binds (ps := ["self", "day"]) fun _ _ _ _ _ _ us hl => (match us, hl with | [_, _], _ => rfl), exm_same eeE0 eicE0 etyE0 esuE0, ⟨egaE0, eggE0, eeE0, ehdE0⟩, enoE0⟩
  have F_BadSaying_init := fun_mk (st := s_BadSaying_init) lE1 cE1 kE1
  have E_BadSaying : ErrF K mg "BadSaying" "what" CE1 iE1 _ := ⟨PySem.W.mg_of X G eaE1, ⟨⟨_, _, _, _, _, _, _, _, _, _, _, _, _, _, _, exE1, by rfl⟩, esE1, eeE1, etyE1, ekE1⟩, eiE1, etE1, F_BadSaying_init.binds (ps := ["self", "what"]) fun _ _ _ _ _ _ us hl => (match us, hl with | [_, _], _ => rfl), exm_same eeE1 eicE1 etyE1 esuE1, ⟨egaE1, eggE1, eeE1, ehdE1⟩, enoE1⟩
  have z := fun {x : Str} (e : PySem.W.nsIn K mainGlobals x = some none) => PySem.W.mg_none_of X G e
  have T1 : Bt mg := ⟨z z_len, z z_abs, z z_int, z z_enumerate, z z_range⟩
  have T2 : BtY mg := ⟨z z_isinstance, z z_int, z z_bool, ⟨_, PySem.W.mg_of X G h1⟩, ⟨_, PySem.W.mg_of X G h2⟩⟩
  have T3 : BtR mg := ⟨z z_range, z z_sum⟩
  have T4 : BtO mg := ⟨z z_range, z z_repr⟩
  have T5 : BtL mg := ⟨z z_range, z z_len, z z_max, z z_min⟩
  have gC := PySem.W.mg_of X G sC
  have S : SayC K C := ⟨⟨sPg, sHd, sPo, sSa⟩, nW, nT, nU, nC, nB, nL, nH, nS⟩
  have S2 : SayK K C fE := ⟨sHa, sHn, sTk, sHm, kit_not sIc sTy sNf, sNf, sEq, sFe⟩
  have M : Mk K C fI := ⟨mMk, mIn, mFn, mKp⟩
  have FI := fund_mk (st := s_Saying_init) lxI cxI kxI dxI
  have FO := fund_mk (st := s_Saying_of_days) lxO cxO kxO dxO
  have FC := fun_mk (st := s_Saying_contrary) lxC cxC kxC
  have FF := fun_mk (st := s_Saying_flipped) lxF cxF kxF
  have FN := fun_mk (st := s_Saying_on) lxN cxN kxN
  have FE := fun_mk (st := s_Saying_eq) lxE cxE kxE
  have MC : Meth K C "contrary" fC := ⟨maC, mfC, kxC⟩
  have MF : Meth K C "flipped" fF := ⟨maF, mfF, kxF⟩
  have MN : Meth K C "on" fN := ⟨maN, mfN, kxN⟩
  have CR : CRead K C (.type "type") := ⟨rRd, rGa⟩
  have CM : CMet K C (.type "type") "of_days" pO fO := ⟨rAt, ⟨_, rRc⟩, rFi⟩
  obtain ⟨dsI, dI1, bI1⟩ := init_def FI
  obtain ⟨dsO, dO1, bO1⟩ := of_def FO
  obtain ⟨g1, kI⟩ := init_kw FI
  obtain ⟨g2, kO⟩ := of_kw FO
  have bI := init_full FI
  have bO := of_full FO
  have bC : L2.Binds K _ ["self"] [] := FC.binds (ps := ["self"]) fun _ _ _ _ _ _ us hl => match us, hl with | [_], _ => rfl
  have bF : L2.Binds K _ ["self"] [] := FF.binds (ps := ["self"]) fun _ _ _ _ _ _ us hl => match us, hl with | [_], _ => rfl
  have bN : L2.Binds K _ ["self", "day"] [] := FN.binds (ps := ["self", "day"]) fun _ _ _ _ _ _ us hl => match us, hl with | [_, _], _ => rfl
  have bE : L2.Binds K _ ["self", "other"] [] := FE.binds (ps := ["self", "other"]) fun _ _ _ _ _ _ us hl => match us, hl with | [_, _], _ => rfl
  refine ⟨PySem.W.fnOf "law" "law" (defArgs s_law) (defBody s_law) (defScope s_law) .none kV16 dc16 pm16 an16 cd16 ct16, fun s v => .of_eq rfl, fun base _ _ => ?_⟩
  have G_take := ok_l_take (P := P) (w := w) (base := base) F_l_take T1
  have G_of := ok_l_of F_l_of T1 D_l_take G_take
  have G_set := ok_l_set F_l_set D_l_take G_take D_l_of G_of
  have G_rows := ok_l_rows (P := P) (w := w) (mg := mg) (base := base) F_l_rows S
  have G_due := ok_l_due (P := P) (w := w) (base := base) F_l_due T3
  have G_whole := ok_is_whole F_is_whole D_is_number (ok_is_number (P := P) (w := w) (base := base) F_is_number T2)
  have G_dset := ok_is_day_set F_is_day_set T2 D_is_whole G_whole
  have GI := ok_Saying_init FI T2 D_is_day_set G_dset E_BadSaying F_BadSaying_init
  have GO := ok_Saying_of_days FO D_is_day_set G_dset E_BadSaying F_BadSaying_init S M bI GI
  have GC := ok_Saying_contrary FC S gC M bI GI
  have GF := ok_Saying_flipped FF S gC M bI GI
  have GV := ok_verdict_on F_verdict_on T2 D_is_whole G_whole E_NoDay F_NoDay_init
  have GN := ok_Saying_on FN S D_verdict_on GV
  have GE := ok_Saying_eq (P := P) (w := w) (base := base) FE T2 S S2 gC
  have G_lwhole := ok_l_is_whole (P := P) (w := w) (base := base) F_l_is_whole T2
  have G_word := ok_l_word F_l_word T2 D_l_is_whole G_lwhole
  have G_parts := ok_l_parts_word F_l_parts_word T2 D_l_is_whole G_lwhole
  have G_made := ok_l_made F_l_made E_BadSaying S gC M bI GI CR CM bO GO
  have G_on := ok_l_on F_l_on T4 E_NoDay S MN bN GN
  have G_say := ok_l_saying F_l_saying S S2 gC M bI bI1 dI1 kI GI CR CM bO1 dO1 kO GO MC GC bC MF GF bF GE bE D_l_set G_set D_l_take G_take D_l_rows G_rows D_l_due G_due D_l_on G_on
  have G_ref := ok_l_refusals F_l_refusals T3 D_l_set G_set D_l_take G_take D_l_of G_of D_l_made G_made D_l_word G_word D_l_parts_word G_parts
  exact ok_law F_law T5 D_l_bag (ok_l_bag F_l_bag T1) D_l_saying G_say D_l_refusals G_ref
theorem walk {l : PySem.W.OpenLaw} {q : Program} {loose : List Str} {XP : (Str → Option Value) → Heap → Prop} {YP : World → Heap → Prop} {d : DefRec} {K : Params → PySem.W.Frag} (hn : l.most = some 63) (hdf : d.params.defaults = [])
    (hY : ∀ (w : World) (h : Heap), YP w h → (K w.params).In h)
    (F : ∀ (w : World) (mg : Str → Option Value) (fa : Addr) (h : Heap), (K w.params).In h → h.Ns mainGlobals mg → mg d.name = some (.ref fa) →
      ∃ fd : FuncData, (∀ (s : Shared) (u : Value), BindsTo s fd ⟨[u], []⟩ [("_law_script", u)]) ∧ ∀ base : Heap, (K w.params).In base → base.Ns mainGlobals mg → FnG l.prog w (K w.params) mg base CX0 9 fa fd ["_law_script"] (sp_law (K w.params))) :
    PySem.W.WalkO q loose XP YP l.row.toRowW d [] (fun f vs => PySem.call f vs) :=
  walk_ofG (k := 9) (x := "_law_script") (sp := fun K => sp_law K) hn hdf ⟨rfl, by decide, by decide⟩ hY F (fun _ _ a ns hl hS => ⟨a, ns, rfl, hS, hl, fun _ => rfl⟩)
end My
open PySem PySem.W PyProof.Rows
set_option maxRecDepth 100000 in
set_option maxHeartbeats 0 in
theorem PySem.Challenge.cw_usualdays_k06_sayings_and_their_days_holds : PySem.Challenge.rw_usualdays_k06_sayings_and_their_days.Holds := by
  w_on; o_law; k_head; (case hw => w_witness2)
  k_fill
  refine My.walk (l := PySem.Challenge.rw_usualdays_k06_sayings_and_their_days) rfl rfl (fun w h Y => PySem.W.kIn_of Y) ?F
  case F =>
    intro w mg fa h KX G hmg
    refine' My.all_mk KX G hmg ?aX ?lX ?cX ?kX ?a0 ?l0 ?c0 ?k0 ?a1 ?l1 ?c1 ?k1 ?a2 ?l2 ?c2 ?k2 ?a3 ?l3 ?c3 ?k3 ?a4 ?l4 ?c4 ?k4 ?a5 ?l5 ?c5 ?k5 ?a6 ?l6 ?c6 ?k6 ?a7 ?l7 ?c7 ?k7 ?a8 ?l8 ?c8 ?k8 ?a9 ?l9 ?c9 ?k9 ?a10 ?l10 ?c10 ?k10 ?a11 ?l11 ?c11 ?k11 ?a12 ?l12 ?c12 ?k12 ?a13 ?l13 ?c13 ?k13 ?a14 ?l14 ?c14 ?k14 ?a15 ?l15 ?c15 ?k15 ?a16 ?l16 ?c16 ?k16 ?eaE0 ?exE0 ?esE0 ?eiE0 ?etE0 ?lE0 ?cE0 ?kE0 ?ekE0 ?eeE0 ?etyE0 ?eicE0 ?esuE0 ?egaE0 ?eggE0 ?ehdE0 ?enoE0 ?eaE1 ?exE1 ?esE1 ?eiE1 ?etE1 ?lE1 ?cE1 ?kE1 ?ekE1 ?eeE1 ?etyE1 ?eicE1 ?esuE1 ?egaE1 ?eggE1 ?ehdE1 ?enoE1 ?z_len ?z_abs ?z_int ?z_enumerate ?z_range ?z_isinstance ?z_bool ?z_sum ?z_max ?z_min ?z_repr ?h1 ?h2 ?sC ?sPg ?sHd ?sPo ?sSa ?nW ?nT ?nU ?nC ?nB ?nL ?nH ?nS ?sHa ?sHn ?sTk ?sHm ?sIc ?sTy ?sNf ?sEq ?sFe ?mMk ?mIn ?mFn ?mKp ?maC ?mfC ?maF ?mfF ?maN ?mfN ?lxI ?cxI ?kxI ?dxI ?rRd ?rGa ?rAt ?rRc ?rFi ?lxO ?cxO ?kxO ?dxO ?lxC ?cxC ?kxC ?lxF ?cxF ?kxF ?lxN ?cxN ?kxN ?lxE ?cxE ?kxE
    (case aX => k_is)
    (case lX => k_is)
    (case cX => k_is)
    (case kX => k_is)
    (case a0 => k_is)
    (case l0 => k_is)
    (case c0 => k_is)
    (case k0 => k_is)
    (case a1 => k_is)
    (case l1 => k_is)
    (case c1 => k_is)
    (case k1 => k_is)
    (case a2 => k_is)
    (case l2 => k_is)
    (case c2 => k_is)
    (case k2 => k_is)
    (case a3 => k_is)
    (case l3 => k_is)
    (case c3 => k_is)
    (case k3 => k_is)
    (case a4 => k_is)
    (case l4 => k_is)
    (case c4 => k_is)
    (case k4 => k_is)
    (case a5 => k_is)
    (case l5 => k_is)
    (case c5 => k_is)
    (case k5 => k_is)
    (case a6 => k_is)
    (case l6 => k_is)
    (case c6 => k_is)
    (case k6 => k_is)
    (case a7 => k_is)
    (case l7 => k_is)
    (case c7 => k_is)
    (case k7 => k_is)
    (case a8 => k_is)
    (case l8 => k_is)
    (case c8 => k_is)
    (case k8 => k_is)
    (case a9 => k_is)
    (case l9 => k_is)
    (case c9 => k_is)
    (case k9 => k_is)
    (case a10 => k_is)
    (case l10 => k_is)
    (case c10 => k_is)
    (case k10 => k_is)
    (case a11 => k_is)
    (case l11 => k_is)
    (case c11 => k_is)
    (case k11 => k_is)
    (case a12 => k_is)
    (case l12 => k_is)
    (case c12 => k_is)
    (case k12 => k_is)
    (case a13 => k_is)
    (case l13 => k_is)
    (case c13 => k_is)
    (case k13 => k_is)
    (case a14 => k_is)
    (case l14 => k_is)
    (case c14 => k_is)
    (case k14 => k_is)
    (case a15 => k_is)
    (case l15 => k_is)
    (case c15 => k_is)
    (case k15 => k_is)
    (case a16 => k_is)
    (case l16 => k_is)
    (case c16 => k_is)
    (case k16 => k_is)
    (case eaE0 => k_is)
    (case exE0 => k_is)
    (case esE0 => k_is)
    (case eiE0 => k_is)
    (case etE0 => k_is)
    (case lE0 => k_is)
    (case cE0 => k_is)
    (case kE0 => k_is)
    (case ekE0 => k_is)
    (case eeE0 => k_is)
    (case etyE0 => k_is)
    (case eicE0 => k_is)
    (case esuE0 => first | rfl | k_is)
    (case egaE0 => k_is)
    (case eggE0 => k_is)
    (case ehdE0 => k_is)
    (case enoE0 => k_is)
    (case eaE1 => k_is)
    (case exE1 => k_is)
    (case esE1 => k_is)
    (case eiE1 => k_is)
    (case etE1 => k_is)
    (case lE1 => k_is)
    (case cE1 => k_is)
    (case kE1 => k_is)
    (case ekE1 => k_is)
    (case eeE1 => k_is)
    (case etyE1 => k_is)
    (case eicE1 => k_is)
    (case esuE1 => first | rfl | k_is)
    (case egaE1 => k_is)
    (case eggE1 => k_is)
    (case ehdE1 => k_is)
    (case enoE1 => k_is)
    (case z_len => k_is)
    (case z_abs => k_is)
    (case z_int => k_is)
    (case z_enumerate => k_is)
    (case z_range => k_is)
    (case z_isinstance => k_is)
    (case z_bool => k_is)
    (case z_sum => k_is)
    (case z_max => k_is)
    (case z_min => k_is)
    (case z_repr => k_is)
    (case h1 => k_is)
    (case h2 => k_is)
    (case sC => k_is)
    (case sPg => k_is)
    (case sHd => k_is)
    (case sPo => k_is)
    (case sSa => k_is)
    (case nW => k_is)
    (case nT => k_is)
    (case nU => k_is)
    (case nC => k_is)
    (case nB => k_is)
    (case nL => k_is)
    (case nH => k_is)
    (case nS => k_is)
    (case sHa => k_is)
    (case sHn => k_is)
    (case sTk => k_is)
    (case sHm => k_is)
    (case sIc => k_is)
    (case sTy => k_is)
    (case sNf => k_is)
    (case sEq => k_is)
    (case sFe => k_is)
    (case mMk => k_is)
    (case mIn => k_is)
    (case mFn => k_is)
    (case mKp => k_is)
    (case maC => k_is)
    (case mfC => k_is)
    (case maF => k_is)
    (case mfF => k_is)
    (case maN => k_is)
    (case mfN => k_is)
    (case lxI => k_is)
    (case cxI => k_is)
    (case kxI => k_is)
    (case dxI => k_is)
    (case rRd => k_is)
    (case rGa => k_is)
    (case rAt => k_is)
    (case rRc => k_is)
    (case rFi => k_is)
    (case lxO => k_is)
    (case cxO => k_is)
    (case kxO => k_is)
    (case dxO => k_is)
    (case lxC => k_is)
    (case cxC => k_is)
    (case kxC => k_is)
    (case lxF => k_is)
    (case cxF => k_is)
    (case kxF => k_is)
    (case lxN => k_is)
    (case cxN => k_is)
    (case kxN => k_is)
    (case lxE => k_is)
    (case cxE => k_is)
    (case kxE => k_is)
