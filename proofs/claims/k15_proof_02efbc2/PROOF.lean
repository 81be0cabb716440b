import PyProof.Rows.All
import Wide.All
import OpenK.AllK
import Wide.FinOn
import HandS.ForMost
import HandS.ForExc
import HandS.Wide
import HandS.WideBits
import HandS.IsInst
import HandS.Style
import HandS.Steps
import HandS.Zip
import HandS.ExcInit
import HandS.ExcField
import HandS.SlotsOwn
import HandS.ClsMeth
import HandS.MakeKw
import HandS.CallLocal
import HandS.IterVal
import KE.GoesMore
import HandS.SortKw
import KE.DatumOrd
import HandS.SetFor
import HandS.Strs
import HandS.DictComp
import HandS.Property
import KE.KCallOwn
import HandS.Defaults
import HandS.Walk
import HandS.Text
import HandS.OwnIter
import HandS.Deep
import KE.KExcIs
import HandS.ExcIs
import HandS.TryMany
import HandS.TryOnly
import HandS.CallSlots
import KE.DatumIndex
import HandS.More
import KE.IntBitsLaws
import HandS.Star
import HandS.TupAny
import HandS.Conv
import PySem.Challenge.RW_usualdays_k15_whole_lesser_and_closed_or
set_option Elab.async false
set_option maxRecDepth 100000
set_option maxHeartbeats 4000000
set_option linter.all false
set_option autoImplicit false
/-! TW0: programs of plain values (W), what stands for them in the heap (Pa, Py), states and their steps -/
namespace TW
open PySem L2

/-! ### programs of plain values -/
/-- what an exception bears -/
inductive D where
  | non | bl (b : Bool) | int (i : Int) | str (s : Str) | lst (xs : List D) | tup (xs : List D) | ob (n : Nat)
structure Exn where
  cls : Nat
  fs : List (Str × D)
/-- a program that gives an α: what must hold so that P holds of what it gives, E of what it raises -/
structure W (α : Type) where
  run : (α → Prop) → (Exn → Prop) → Prop
  mono : ∀ {P Q : α → Prop} {E F : Exn → Prop}, (∀ a, P a → Q a) → (∀ e, E e → F e) → run P E → run Q F
namespace W
def ret {α : Type} (a : α) : W α := ⟨fun P _ => P a, fun h _ => h a⟩
def bnd {α β : Type} (m : W α) (f : α → W β) : W β := ⟨fun P E => m.run (fun a => (f a).run P E) E, fun h k => m.mono (fun a => (f a).mono h k) k⟩
def need (p : Prop) : W Unit := ⟨fun P _ => p ∧ P (), fun h _ ⟨x, y⟩ => ⟨x, h _ y⟩⟩
def pick {α : Type} (S : α → Prop) : W α := ⟨fun P _ => ∀ a, S a → P a, fun h _ x a s => h a (x a s)⟩
def thr {α : Type} (e : Exn) : W α := ⟨fun _ E => E e, fun _ k => k e⟩
def fail {α : Type} : W α := ⟨fun _ _ => False, fun _ _ x => x⟩
instance : Monad W where
  pure := ret
  bind := bnd
end W
section
variable {α β : Type} {P : α → Prop} {E : Exn → Prop}
@[simp] theorem run_pure (a : α) : (pure a : W α).run P E = P a := rfl
@[simp] theorem run_bind (m : W β) (f : β → W α) : (m >>= f).run P E = m.run (fun b => (f b).run P E) E := rfl
@[simp] theorem run_need (p : Prop) (Q : Unit → Prop) : (W.need p).run Q E = (p ∧ Q ()) := rfl
@[simp] theorem run_pick (S : α → Prop) : (W.pick S).run P E = ∀ a, S a → P a := rfl
@[simp] theorem run_thr (e : Exn) : (W.thr e : W α).run P E = E e := rfl
@[simp] theorem run_fail : (W.fail : W α).run P E = False := rfl
theorem W.ext {m n : W α} (h : m.run = n.run) : m = n := by cases m; cases n; cases h; rfl
@[simp] theorem pure_bnd (a : β) (f : β → W α) : (pure a >>= f) = f a := rfl
@[simp] theorem bnd_pure (m : W α) : (m >>= pure) = m := rfl
@[simp] theorem bnd_assoc {γ : Type} (m : W γ) (f : γ → W β) (g : β → W α) : (m >>= f) >>= g = m >>= fun x => f x >>= g := rfl
@[simp] theorem ite_run {c : Prop} [Decidable c] (m n : W α) : (if c then m else n).run P E = if c then m.run P E else n.run P E := by split <;> rfl
end

/-! ### states -/
/-- B: the bags; M: what may change (the bags; lists and objects that a def owns) -/
structure Av where
  B : Addr → Prop
  M : Addr → Prop
def Av.add (A : Av) (p : Addr) : Av := ⟨A.B, fun q => A.M q ∨ q = p⟩
def Av.addB (A : Av) (p : Addr) : Av := ⟨fun q => A.B q ∨ q = p, fun q => A.M q ∨ q = p⟩
def Av.del (A : Av) (p : Addr) : Av := ⟨A.B, fun q => A.M q ∧ q ≠ p⟩
/-- a bag: the digits left, the mix, the turns -/
def BagO (o : HO) : Prop := ∃ c m n : Int, o = .lst [.int c, .int m, .int n] ∧ 0 ≤ c ∧ 0 ≤ m ∧ m < 2 ^ 40 ∧ 0 ≤ n
structure Dom (A : Av) (H : Hp) : Prop where
  m : ∀ p, A.M p → H p ≠ none
  b : ∀ p, A.B p → ∃ o, H p = some o ∧ BagO o
  s : ∀ p, A.B p → A.M p
/-- what does not lean on M is as it was -/
structure Mv (A : Av) (H : Hp) (A' : Av) (H' : Hp) : Prop where
  m : ∀ p, A'.M p → A.M p ∨ H p = none
  k : ∀ a o, ¬ A.M a → H a = some o → H' a = some o
  b : ∀ p, A.B p → A'.B p ∧ ∃ o, H' p = some o ∧ BagO o
/-- a step: nothing but the bags has changed -/
structure St (A : Av) (H : Hp) (A' : Av) (H' : Hp) : Prop where
  ms : ∀ p, A.M p → A'.M p
  bs : ∀ p, A.B p → A'.B p
  nm : ∀ p, A'.M p → A.M p ∨ H p = none
  nb : ∀ p, A'.B p → A.B p ∨ H p = none
  k : ∀ a o, ¬ A.B a → H a = some o → H' a = some o
  d : Dom A' H'
section
variable {A A' A'' : Av} {H H' H'' : Hp} {p : Addr} {o : HO}
theorem St.refl (d : Dom A H) : St A H A H := ⟨fun _ h => h, fun _ h => h, fun _ h => .inl h, fun _ h => .inl h, fun _ _ _ h => h, d⟩
theorem St.none (s : St A H A' H') (h : H' p = .none) : H p = .none := by
  cases q : H p with
  | none => rfl
  | some o =>
    by_cases b : A.B p
    · obtain ⟨o, e, _⟩ := s.d.b p (s.bs p b)
      rw [e] at h; cases h
    · rw [s.k p o b q] at h; cases h
theorem St.trans (s : St A H A' H') (t : St A' H' A'' H'') : St A H A'' H'' where
  ms := fun p h => t.ms p (s.ms p h)
  bs := fun p h => t.bs p (s.bs p h)
  nm := fun p h => (t.nm p h).elim (s.nm p) fun e => .inr (s.none e)
  nb := fun p h => (t.nb p h).elim (s.nb p) fun e => .inr (s.none e)
  k := fun a o n e => t.k a o (fun b => (s.nb a b).elim n fun z => by rw [z] at e; cases e) (s.k a o n e)
  d := t.d
theorem St.mv (d : Dom A H) (s : St A H A' H') : Mv A H A' H' :=
  ⟨s.nm, fun a o n e => s.k a o (fun b => n (d.s a b)) e, fun p b => ⟨s.bs p b, s.d.b p (s.bs p b)⟩⟩
theorem Mv.refl (d : Dom A H) : Mv A H A H := (St.refl d).mv d
/-- a new object -/
theorem Dom.ne {q : Addr} (d : Dom A H) (m : A.M q) (n : H p = .none) : q ≠ p := fun e => d.m q m (by rw [e]; exact n)
theorem Dom.nm (d : Dom A H) (n : H p = .none) : ¬ A.M p := fun m => d.m p m n
theorem Dom.new (d : Dom A H) (n : H p = .none) : Dom A (upd H p o) :=
  ⟨fun q m => by rw [upd_ne (d.ne m n)]; exact d.m q m, fun q b => by rw [upd_ne (d.ne (d.s q b) n)]; exact d.b q b, d.s⟩
theorem St.new (d : Dom A H) (n : H p = .none) : St A H A (upd H p o) :=
  ⟨fun _ h => h, fun _ h => h, fun _ h => .inl h, fun _ h => .inl h, fun a u _ e => by rw [upd_ne (ne_of_none e n)]; exact e, d.new n⟩
theorem Dom.newM (d : Dom A H) (n : H p = .none) : Dom (A.add p) (upd H p o) where
  m := fun q m => by
    rcases m with m | rfl
    · rw [upd_ne (d.ne m n)]; exact d.m q m
    · rw [upd_same]; exact nofun
  b := fun q b => by rw [upd_ne (d.ne (d.s q b) n)]; exact d.b q b
  s := fun q b => .inl (d.s q b)
theorem St.newM (d : Dom A H) (n : H p = .none) : St A H (A.add p) (upd H p o) :=
  ⟨fun _ h => .inl h, fun _ h => h, fun q h => h.elim .inl fun e => .inr (by rw [e]; exact n), fun _ h => .inl h, fun a u _ e => by rw [upd_ne (ne_of_none e n)]; exact e, d.newM n⟩
theorem Dom.newB (d : Dom A H) (n : H p = .none) (hb : BagO o) : Dom (A.addB p) (upd H p o) where
  m := fun q m => by
    rcases m with m | rfl
    · rw [upd_ne (d.ne m n)]; exact d.m q m
    · rw [upd_same]; exact nofun
  b := fun q b => by
    rcases b with b | rfl
    · rw [upd_ne (d.ne (d.s q b) n)]; exact d.b q b
    · exact ⟨o, upd_same, hb⟩
  s := fun q b => b.elim (fun b => .inl (d.s q b)) .inr
theorem St.newB (d : Dom A H) (n : H p = .none) (hb : BagO o) : St A H (A.addB p) (upd H p o) :=
  ⟨fun _ h => .inl h, fun _ h => .inl h, fun q h => h.elim .inl fun e => .inr (by rw [e]; exact n), fun q h => h.elim .inl fun e => .inr (by rw [e]; exact n), fun a u _ e => by rw [upd_ne (ne_of_none e n)]; exact e, d.newB n hb⟩
/-- a bag is turned -/
theorem St.bag (d : Dom A H) (b : A.B p) (hb : BagO o) : St A H A (upd H p o) :=
  ⟨fun _ h => h, fun _ h => h, fun _ h => .inl h, fun _ h => .inl h, fun a u n e => by rw [upd_ne (b := a) fun z => n (by rw [z]; exact b)]; exact e,
    ⟨fun q m => by
      by_cases e : q = p
      · rw [e, upd_same]; exact nofun
      · rw [upd_ne e]; exact d.m q m, fun q m => by
      by_cases e : q = p
      · rw [e]; exact ⟨o, upd_same, hb⟩
      · rw [upd_ne e]; exact d.b q m, d.s⟩⟩
/-- an owned object is changed -/
theorem Dom.chg (d : Dom A H) (m : A.M p) (b : ¬ A.B p) : Dom A (upd H p o) where
  m := fun q hq => by
    by_cases e : q = p
    · subst e; rw [upd_same]; exact nofun
    · rw [upd_ne e]; exact d.m q hq
  b := fun q hq => by
    have e : q ≠ p := fun e => b (by rw [← e]; exact hq)
    rw [upd_ne e]; exact d.b q hq
  s := d.s
theorem Mv.chg (d : Dom A H) (m : A.M p) (b : ¬ A.B p) : Mv A H A (upd H p o) :=
  ⟨fun _ h => .inl h, fun a u n e => by rw [upd_ne (b := a) fun z => n (by rw [z]; exact m)]; exact e, fun q hq => ⟨hq, (d.chg m b).b q hq⟩⟩
/-- St where an owned object of ours, not there at the beginning, is changed -/
theorem St.chg (s : St A H A' H') (n : H p = .none) (m : A'.M p) (b : ¬ A'.B p) : St A H A' (upd H' p o) :=
  ⟨s.ms, s.bs, s.nm, s.nb, fun a u nb e => by rw [upd_ne (ne_of_none e n)]; exact s.k a u nb e, s.d.chg m b⟩
/-- .. or is let go -/
theorem Dom.del (d : Dom A H) (b : ¬ A.B p) : Dom (A.del p) H := ⟨fun q h => d.m q h.1, d.b, fun q h => ⟨d.s q h, fun e => b (by rw [← e]; exact h)⟩⟩
theorem Mv.del (d : Dom A H) : Mv A H (A.del p) H := ⟨fun _ h => .inl h.1, fun _ _ _ e => e, fun q h => ⟨h, d.b q h⟩⟩
theorem St.del (s : St A H A' H') (d : Dom A H) (n : H p = .none) (b : ¬ A'.B p) : St A H (A'.del p) H' :=
  ⟨fun q h => ⟨s.ms q h, d.ne h n⟩, s.bs, fun q h => s.nm q h.1, s.nb, s.k, s.d.del b⟩
end

/-! ### what stands for a value -/
structure Gx where
  K : PySem.W.Frag
  cls : Nat → Addr
class Pa (α : Type) where
  rep : Gx → Av → Hp → V → α → Prop
  st : ∀ {G A H A' H' v a}, rep G A H v a → Dom A H → St A H A' H' → rep G A' H' v a
class Py (α : Type) extends Pa α where
  mv : ∀ {G A H A' H' v a}, rep G A H v a → Mv A H A' H' → rep G A' H' v a
open Pa (rep)
universe u v
inductive All2 {α : Type u} {β : Type v} (R : α → β → Prop) : List α → List β → Prop
  | nil : All2 R [] []
  | cons {a b l m} : R a b → All2 R l m → All2 R (a :: l) (b :: m)
section
variable {α : Type u} {β : Type v} {R S : α → β → Prop}
theorem All2.imp (h : ∀ a b, R a b → S a b) : ∀ {l : List α} {m : List β}, All2 R l m → All2 S l m
  | _, _, .nil => .nil
  | _, _, .cons r t => .cons (h _ _ r) (All2.imp h t)
theorem All2.len : ∀ {l : List α} {m : List β}, All2 R l m → l.length = m.length
  | _, _, .nil => rfl
  | _, _, .cons _ t => congrArg (· + 1) t.len
theorem All2.app : ∀ {l l' : List α} {m m' : List β}, All2 R l m → All2 R l' m' → All2 R (l ++ l') (m ++ m')
  | _, _, _, _, .nil, s => s
  | _, _, _, _, .cons r t, s => .cons r (t.app s)
theorem All2.get : ∀ {l : List α} {m : List β} (i : Nat) {b : β}, All2 R l m → m[i]? = some b → ∃ a, l[i]? = some a ∧ R a b
  | _, _, i, _, .nil, e => by simp at e
  | _, _, 0, _, .cons r _, e => by simp at e; subst e; exact ⟨_, rfl, r⟩
  | _, _, i + 1, _, .cons _ t, e => by
    obtain ⟨a, h1, h2⟩ := t.get i (by simpa using e)
    exact ⟨a, by simpa using h1, h2⟩
theorem All2.getL : ∀ {l : List α} {m : List β} (i : Nat) {a : α}, All2 R l m → l[i]? = some a → ∃ b, m[i]? = some b ∧ R a b
  | _, _, i, _, .nil, e => by simp at e
  | _, _, 0, _, .cons r _, e => by simp at e; subst e; exact ⟨_, rfl, r⟩
  | _, _, i + 1, _, .cons _ t, e => by
    obtain ⟨a, h1, h2⟩ := t.getL i (by simpa using e)
    exact ⟨a, by simpa using h1, h2⟩
theorem All2.set {a : α} {b : β} (r : R a b) : ∀ {l : List α} {m : List β} (i : Nat), All2 R l m → All2 R (l.set i a) (m.set i b)
  | _, _, _, .nil => .nil
  | _, _, 0, .cons _ t => .cons r t
  | _, _, i + 1, .cons q t => .cons q (t.set r i)
theorem All2.take : ∀ {l : List α} {m : List β} (n : Nat), All2 R l m → All2 R (l.take n) (m.take n)
  | _, _, 0, _ => .nil
  | _, _, _ + 1, .nil => .nil
  | _, _, n + 1, .cons r t => .cons r (t.take n)
theorem All2.drop : ∀ {l : List α} {m : List β} (n : Nat), All2 R l m → All2 R (l.drop n) (m.drop n)
  | _, _, 0, r => r
  | _, _, _ + 1, .nil => .nil
  | _, _, n + 1, .cons _ t => t.drop n
theorem All2.map_eq (f : β → α) (h : ∀ a b, R a b → a = f b) : ∀ {l : List α} {m : List β}, All2 R l m → l = m.map f
  | _, _, .nil => rfl
  | _, _, .cons r t => by rw [List.map_cons, ← h _ _ r, ← t.map_eq f h]
end
instance : Py Int where
  rep := fun _ _ _ v i => v = .int i
  st := fun h _ _ => h
  mv := fun h _ => h
instance : Py Bool where
  rep := fun _ _ _ v i => v = .bl i
  st := fun h _ _ => h
  mv := fun h _ => h
instance : Py Str where
  rep := fun _ _ _ v i => v = .str i
  st := fun h _ _ => h
  mv := fun h _ => h
instance : Py Unit where
  rep := fun _ _ _ v _ => v = .non
  st := fun h _ _ => h
  mv := fun h _ => h
instance {α : Type} [Py α] : Py (Option α) where
  rep := fun G A H v o => match o with | none => v = .non | some a => v ≠ .non ∧ rep G A H v a
  st := fun {G A H A' H' v a} h d s => match a, h with | none, h => h | some _, h => ⟨h.1, Pa.st h.2 d s⟩
  mv := fun {G A H A' H' v a} h s => match a, h with | none, h => h | some _, h => ⟨h.1, Py.mv h.2 s⟩
/-- the list at p: kept or written -/
def AtL (A : Av) (H : Hp) (p : Addr) (vs : List V) : Prop := ¬ A.M p ∧ H p = some (.lst vs)
def AtS (G : Gx) (A : Av) (H : Hp) (p : Addr) (vs : List V) : Prop := (¬ A.M p ∧ Rd H p (.lst vs)) ∨ SqL G.K (fun _ => none) p vs
def AtT (G : Gx) (A : Av) (H : Hp) (p : Addr) (vs : List V) : Prop := (¬ A.M p ∧ H p = some (.tup vs)) ∨ SqT G.K (fun _ => none) p vs
section
variable {G : Gx} {A A' : Av} {H H' : Hp} {p : Addr} {vs : List V} {u : HO}
theorem rd_mv (h : Rd H p u) (k : ∀ o, H p = some o → H' p = some o) : Rd H' p u := h.elim (fun e => .inl (k _ e)) fun ⟨o, e⟩ => .inr ⟨o, k _ e⟩
theorem rd_ne (h : Rd H p u) : H p ≠ none := by
  rcases h with e | ⟨o, e⟩ <;> rw [e] <;> exact nofun
theorem sql_kp (h : SqL G.K (fun _ => none) p vs) : SqL G.K H p vs := by
  rcases h with (h | ⟨_, h⟩) | h
  · cases h
  · cases h
  · exact .inr h
theorem sqt_kp (h : SqT G.K (fun _ => none) p vs) : SqT G.K H p vs := by
  rcases h with (h | ⟨_, h⟩) | h
  · cases h
  · cases h
  · exact .inr h
theorem AtL.sq {K : PySem.W.Frag} (h : AtL A H p vs) : SqL K H p vs := .inl (.inl h.2)
theorem AtS.sq (h : AtS G A H p vs) : SqL G.K H p vs := h.elim (fun h => .inl h.2) sql_kp
theorem AtT.sq (h : AtT G A H p vs) : SqT G.K H p vs := h.elim (fun h => .inl (.inl h.2)) sqt_kp
theorem AtL.mv (h : AtL A H p vs) (s : Mv A H A' H') : AtL A' H' p vs := ⟨fun m => (s.m p m).elim h.1 (fun z => by rw [h.2] at z; cases z), s.k p _ h.1 h.2⟩
theorem AtS.mv (h : AtS G A H p vs) (s : Mv A H A' H') : AtS G A' H' p vs := by
  rcases h with ⟨n, h⟩ | h
  · exact .inl ⟨fun m => (s.m p m).elim n (rd_ne h), rd_mv h fun o e => s.k p o n e⟩
  · exact .inr h
theorem AtT.mv (h : AtT G A H p vs) (s : Mv A H A' H') : AtT G A' H' p vs := by
  rcases h with ⟨n, h⟩ | h
  · exact .inl ⟨fun m => (s.m p m).elim n (fun z => by rw [h] at z; cases z), s.k p _ n h⟩
  · exact .inr h
end
instance {α : Type} [Py α] : Py (List α) where
  rep := fun G A H v xs => ∃ p vs, v = .ref p ∧ AtL A H p vs ∧ All2 (rep G A H) vs xs
  st := fun ⟨p, vs, e, h, k⟩ d s => ⟨p, vs, e, h.mv (s.mv d), k.imp fun _ _ r => Py.mv r (s.mv d)⟩
  mv := fun ⟨p, vs, e, h, k⟩ s => ⟨p, vs, e, h.mv s, k.imp fun _ _ r => Py.mv r s⟩
/-- tuples of one kind of items -/
structure Tup (α : Type) where
  l : List α
  deriving DecidableEq
instance {α : Type} [Py α] : Py (Tup α) where
  rep := fun G A H v xs => ∃ p vs, v = .ref p ∧ AtT G A H p vs ∧ All2 (rep G A H) vs xs.l
  st := fun ⟨p, vs, e, h, k⟩ d s => ⟨p, vs, e, h.mv (s.mv d), k.imp fun _ _ r => Py.mv r (s.mv d)⟩
  mv := fun ⟨p, vs, e, h, k⟩ s => ⟨p, vs, e, h.mv s, k.imp fun _ _ r => Py.mv r s⟩
structure T2 (α β : Type) where
  a : α
  b : β
  deriving DecidableEq
structure T3 (α β γ : Type) where
  a : α
  b : β
  c : γ
  deriving DecidableEq
instance {α β : Type} [Py α] [Py β] : Py (T2 α β) where
  rep := fun G A H v t => ∃ p x y, v = .ref p ∧ AtT G A H p [x, y] ∧ rep G A H x t.a ∧ rep G A H y t.b
  st := fun ⟨p, x, y, e, h, h1, h2⟩ d s => ⟨p, x, y, e, h.mv (s.mv d), Pa.st h1 d s, Pa.st h2 d s⟩
  mv := fun ⟨p, x, y, e, h, h1, h2⟩ s => ⟨p, x, y, e, h.mv s, Py.mv h1 s, Py.mv h2 s⟩
instance {α β γ : Type} [Py α] [Py β] [Py γ] : Py (T3 α β γ) where
  rep := fun G A H v t => ∃ p x y z, v = .ref p ∧ AtT G A H p [x, y, z] ∧ rep G A H x t.a ∧ rep G A H y t.b ∧ rep G A H z t.c
  st := fun ⟨p, x, y, z, e, h, h1, h2, h3⟩ d s => ⟨p, x, y, z, e, h.mv (s.mv d), Pa.st h1 d s, Pa.st h2 d s, Pa.st h3 d s⟩
  mv := fun ⟨p, x, y, z, e, h, h1, h2, h3⟩ s => ⟨p, x, y, z, e, h.mv s, Py.mv h1 s, Py.mv h2 s, Py.mv h3 s⟩
/-- a bag, as a value -/
structure Bag where
instance : Py Bag where
  rep := fun _ A H v _ => ∃ p, v = .ref p ∧ A.B p ∧ ∃ o, H p = some o ∧ BagO o
  st := fun ⟨p, e, b, _⟩ _ s => ⟨p, e, s.bs p b, s.d.b p (s.bs p b)⟩
  mv := fun ⟨p, e, b, _⟩ s => ⟨p, e, (s.b p b).1, (s.b p b).2⟩
/-- a list that is read, not kept -/
structure Bor (α : Type) where
  l : List α
instance {α : Type} [Py α] : Pa (Bor α) where
  rep := fun G A H v xs => ∃ p vs, v = .ref p ∧ (¬ A.B p ∧ H p = some (.lst vs)) ∧ All2 (rep G A H) vs xs.l
  st := fun ⟨p, vs, e, ⟨n, h⟩, k⟩ d s => ⟨p, vs, e, ⟨fun b => (s.nb p b).elim n (fun z => by rw [h] at z; cases z), s.k p _ n h⟩, k.imp fun _ _ r => Pa.st r d s⟩
/-- the script -/
structure Scr where
  l : List Int
instance : Py Scr where
  rep := fun G A H v xs => ∃ p, v = .ref p ∧ AtS G A H p (xs.l.map V.int)
  st := fun ⟨p, e, h⟩ d s => ⟨p, e, h.mv (s.mv d)⟩
  mv := fun ⟨p, e, h⟩ s => ⟨p, e, h.mv s⟩
/-! ### values of any kind -/
mutual
def repD (G : Gx) (A : Av) (H : Hp) : D → V → Prop
  | .non => fun v => v = .non
  | .bl b => fun v => v = .bl b
  | .int i => fun v => v = .int i
  | .str s => fun v => v = .str s
  | .lst xs => fun v => ∃ p vs, v = .ref p ∧ AtL A H p vs ∧ repDs G A H xs vs
  | .tup xs => fun v => ∃ p vs, v = .ref p ∧ AtT G A H p vs ∧ repDs G A H xs vs
  | .ob n => fun v => ∃ a dx ws, v = .ref a ∧ ¬ A.M a ∧ H a = some (.ins (G.cls n) dx ws)
def repDs (G : Gx) (A : Av) (H : Hp) : List D → List V → Prop
  | [] => fun vs => vs = []
  | x :: xs => fun vs => ∃ v r, vs = v :: r ∧ repD G A H x v ∧ repDs G A H xs r
end
theorem repDs_iff {G : Gx} {A : Av} {H : Hp} : ∀ (xs : List D) (vs : List V), repDs G A H xs vs ↔ All2 (fun v x => repD G A H x v) vs xs
  | [], vs => ⟨fun h => by rw [show vs = [] from by simpa [repDs] using h]; exact .nil, fun h => by cases h; simp [repDs]⟩
  | x :: xs, vs => by
    constructor
    · intro h
      unfold repDs at h
      obtain ⟨v, r, e, h1, h2⟩ := h
      rw [e]
      exact .cons h1 ((repDs_iff xs r).mp h2)
    · intro h
      cases h with
      | cons r t =>
        unfold repDs
        exact ⟨_, _, rfl, r, (repDs_iff xs _).mpr t⟩
mutual
theorem repD_mv {G : Gx} {A A' : Av} {H H' : Hp} (m : Mv A H A' H') : ∀ (d : D) (v : V), repD G A H d v → repD G A' H' d v
  | .non, v, h => by unfold repD at h ⊢; exact h
  | .bl b, v, h => by unfold repD at h ⊢; exact h
  | .int i, v, h => by unfold repD at h ⊢; exact h
  | .str s, v, h => by unfold repD at h ⊢; exact h
  | .lst xs, v, h => by
    unfold repD at h ⊢
    obtain ⟨p, vs, e, h1, h2⟩ := h
    exact ⟨p, vs, e, h1.mv m, repDs_mv m xs vs h2⟩
  | .tup xs, v, h => by
    unfold repD at h ⊢
    obtain ⟨p, vs, e, h1, h2⟩ := h
    exact ⟨p, vs, e, h1.mv m, repDs_mv m xs vs h2⟩
  | .ob n, v, h => by
    unfold repD at h ⊢
    obtain ⟨a, dx, ws, e, h1, h2⟩ := h
    exact ⟨a, dx, ws, e, fun z => (m.m a z).elim h1 (fun z => by rw [h2] at z; cases z), m.k a _ h1 h2⟩
theorem repDs_mv {G : Gx} {A A' : Av} {H H' : Hp} (m : Mv A H A' H') : ∀ (ds : List D) (vs : List V), repDs G A H ds vs → repDs G A' H' ds vs
  | [], vs, h => by unfold repDs at h ⊢; exact h
  | x :: xs, vs, h => by
    unfold repDs at h ⊢
    obtain ⟨v, r, e, h1, h2⟩ := h
    exact ⟨v, r, e, repD_mv m x v h1, repDs_mv m xs r h2⟩
end
instance : Py D where
  rep := fun G A H v d => repD G A H d v
  st := fun h d s => repD_mv (s.mv d) _ _ h
  mv := fun h m => repD_mv m _ _ h
/-- what may not be there -/
def W.get {α : Type} (o : Option α) : W α := ⟨fun P _ => ∃ a, o = some a ∧ P a, fun h _ ⟨a, e, p⟩ => ⟨a, e, h a p⟩⟩
@[simp] theorem run_get {α : Type} (o : Option α) (P : α → Prop) (E : Exn → Prop) : (W.get o).run P E = ∃ a, o = some a ∧ P a := rfl
@[simp] theorem get_some {α : Type} (a : α) : W.get (some a) = pure a := by
  apply W.ext
  funext P E
  simp [W.get]
/-- nothing is raised -/
def W.q {α : Type} (m : W α) : W α := ⟨fun P _ => m.run P fun _ => False, fun h _ => m.mono h fun _ h => h⟩
@[simp] theorem q_run {α : Type} (m : W α) (P : α → Prop) (E : Exn → Prop) : m.q.run P E = m.run P fun _ => False := rfl
@[simp] theorem q_pure {α : Type} (a : α) : (pure a : W α).q = pure a := rfl
end TW
set_option Elab.async false
set_option maxRecDepth 100000
set_option maxHeartbeats 4000000
set_option linter.all false
set_option autoImplicit false
/-! TW1: slots, judgements, expressions -/
namespace TW
open Pa (rep)
open PySem L2

/-! ### slots -/
/-- an attribute -/
structure Fd : Type 1 where
  f : Str
  α : Type
  i : Py α
  a : α
def FdR (G : Gx) (A : Av) (H : Hp) (p : Str × V) (q : Fd) : Prop := p.1 = q.f ∧ q.i.rep G A H p.2 q.a
inductive Sl : Type 1 where
  | un
  | fx (α : Type) [Py α] (a : α)
  | bo (α : Type) [Py α] (xs : List α)
  | mu (α : Type) [Py α] (xs : List α)
  | mp (α : Type) [Py α] (p : Addr) (xs : List α)
  | ob (C : Nat) (p : Addr) (fs : List Fd)
def Sl.own : Sl → Bool
  | @Sl.mu _ _ _ => true
  | @Sl.mp _ _ _ _ => true
  | .ob _ _ _ => true
  | _ => false
/-- the object of our own -/
def OwR (G : Gx) (A : Av) (H : Hp) (p : Addr) (o : HO) : Sl → Prop
  | @Sl.mu α _ xs => ∃ vs, o = .lst vs ∧ All2 (rep G A H) vs xs
  | @Sl.mp α _ q xs => p = q ∧ ∃ vs, o = .lst vs ∧ All2 (rep G A H) vs xs
  | .ob C q fs => p = q ∧ ∃ dx ws, o = .ins (G.cls C) dx ws ∧ All2 (FdR G A H) ws fs
  | _ => False
def OwnAt (G : Gx) (H0 : Hp) (A : Av) (H : Hp) (o : Option V) (s : Sl) : Prop := ∃ p ho, o = some (.ref p) ∧ A.M p ∧ ¬ A.B p ∧ H0 p = none ∧ H p = some ho ∧ OwR G A H p ho s
theorem OwR.mv {G : Gx} {A A' : Av} {H H' : Hp} {p : Addr} {o : HO} {s : Sl} (h : OwR G A H p o s) (m : Mv A H A' H') : OwR G A' H' p o s := by
  cases s with
  | @mu α i xs => obtain ⟨vs, e, k⟩ := h; exact ⟨vs, e, k.imp fun _ _ r => Py.mv r m⟩
  | @mp α i q xs => obtain ⟨ep, vs, e, k⟩ := h; exact ⟨ep, vs, e, k.imp fun _ _ r => Py.mv r m⟩
  | ob C q fs => obtain ⟨ep, dx, ws, e, k⟩ := h; exact ⟨ep, dx, ws, e, k.imp fun _ q r => ⟨r.1, q.i.mv r.2 m⟩⟩
  | _ => exact (show False from h).elim
def SlR (G : Gx) (A0 : Av) (H0 : Hp) (A : Av) (H : Hp) (o : Option V) : Sl → Prop
  | .un => True
  | @Sl.fx α _ a => ∃ v, o = some v ∧ rep G A H v a
  | @Sl.bo α _ xs => ∃ v p vs, o = some v ∧ v = .ref p ∧ (¬ A0.B p ∧ H0 p = some (.lst vs)) ∧ All2 (rep G A H) vs xs
  | s@(@Sl.mu _ _ _) => OwnAt G H0 A H o s
  | s@(@Sl.mp _ _ _ _) => OwnAt G H0 A H o s
  | s@(.ob _ _ _) => OwnAt G H0 A H o s
structure Cxt where
  G : Gx
  A0 : Av
  H0 : Hp
  E : XK
  Er : Exn → Prop
/-- an exception, as it flies -/
def ExR (G : Gx) (A : Av) (H : Hp) (e : Exn) (cls : Value) (d : Option Addr) : Prop :=
  cls = .ref (G.cls e.cls) ∧ match e.fs with
    | [] => d = none
    | fs => ∃ dx vs, d = some dx ∧ ¬ A.M dx ∧ H dx = some (.xd vs) ∧ All2 (fun (p : Str × V) (q : Str × D) => p.1 = q.1 ∧ rep G A H p.2 q.2) vs fs
structure Iv (Γ : Cxt) (A : Av) (H : Hp) (σ : L2.St) (δ : List Sl) : Prop where
  len : σ.length = δ.length
  at_ : ∀ (i : Nat) (s : Sl), δ[i]? = some s → ∃ o, σ[i]? = some o ∧ SlR Γ.G Γ.A0 Γ.H0 A H o s
  sep : ∀ (i j : Nat) (s t : Sl) (p : Addr), i ≠ j → δ[i]? = some s → δ[j]? = some t → s.own = true → t.own = true → σ[i]? = some (some (.ref p)) → σ[j]? = some (some (.ref p)) → False
  d0 : Dom Γ.A0 Γ.H0
  st : St Γ.A0 Γ.H0 A H
  er : ∀ e cls d A' H', Γ.Er e → St Γ.A0 Γ.H0 A' H' → ExR Γ.G A' H' e cls d → Γ.E cls d H'
section
variable {Γ : Cxt} {G : Gx} {A A' A0 : Av} {H H' H0 : Hp} {σ : L2.St} {δ : List Sl} {i : Nat} {o : Option V} {s : Sl}
theorem SlR.step (h : SlR G A0 H0 A H o s) (d : Dom A H) (t : St A H A' H') : SlR G A0 H0 A' H' o s := by
  cases s with
  | un => trivial
  | @fx α i a => obtain ⟨v, e, r⟩ := h; exact ⟨v, e, Pa.st r d t⟩
  | @bo α i xs => obtain ⟨v, p, vs, e, e2, r, k⟩ := h; exact ⟨v, p, vs, e, e2, r, k.imp fun _ _ r => Pa.st r d t⟩
  | @mu α i xs =>
    obtain ⟨p, ho, e, m, b, n, h, k⟩ := h
    exact ⟨p, ho, e, t.ms p m, fun z => (t.nb p z).elim b (fun y => by rw [y] at h; cases h), n, t.k p _ b h, k.mv (t.mv d)⟩
  | @mp α i q xs =>
    obtain ⟨p, ho, e, m, b, n, h, k⟩ := h
    exact ⟨p, ho, e, t.ms p m, fun z => (t.nb p z).elim b (fun y => by rw [y] at h; cases h), n, t.k p _ b h, k.mv (t.mv d)⟩
  | ob C q fs =>
    obtain ⟨p, ho, e, m, b, n, h, k⟩ := h
    exact ⟨p, ho, e, t.ms p m, fun z => (t.nb p z).elim b (fun y => by rw [y] at h; cases h), n, t.k p _ b h, k.mv (t.mv d)⟩
theorem Iv.dom (I : Iv Γ A H σ δ) : Dom A H := I.st.d
theorem Iv.step (I : Iv Γ A H σ δ) (t : St A H A' H') : Iv Γ A' H' σ δ :=
  ⟨I.len, fun i s e => let ⟨o, h, r⟩ := I.at_ i s e; ⟨o, h, r.step I.dom t⟩, I.sep, I.d0, I.st.trans t, I.er⟩
/-- a slot is stored -/
theorem Iv.put (I : Iv Γ A H σ δ) {v : V} (hs : s.own = false) (r : SlR Γ.G Γ.A0 Γ.H0 A H (some v) s) (hi : i < δ.length := by first | decide | simp) : Iv Γ A H (σ.set i (some v)) (δ.set i s) := by
  refine ⟨by simp [I.len], fun j t e => ?_, fun j k t u p hjk ej ek ot ou pj pk => ?_, I.d0, I.st, I.er⟩
  · by_cases h : i = j
    · subst h
      rw [List.getElem?_set_self hi] at e
      cases e
      exact ⟨_, by rw [List.getElem?_set_self (by rw [I.len]; exact hi)], r⟩
    · rw [List.getElem?_set_ne h] at e ⊢
      exact I.at_ j t e
  · have nj : i ≠ j := fun h => by
      subst h
      rw [List.getElem?_set_self hi] at ej
      cases ej
      rw [hs] at ot; cases ot
    have nk : i ≠ k := fun h => by
      subst h
      rw [List.getElem?_set_self hi] at ek
      cases ek
      rw [hs] at ou; cases ou
    rw [List.getElem?_set_ne nj] at ej pj
    rw [List.getElem?_set_ne nk] at ek pk
    exact I.sep j k t u p hjk ej ek ot ou pj pk
theorem Iv.fx (I : Iv Γ A H σ δ) {v : V} {α : Type} [Py α] {a : α} (r : rep Γ.G A H v a) (hi : i < δ.length := by first | decide | simp) : Iv Γ A H (σ.set i (some v)) (δ.set i (.fx α a)) :=
  I.put rfl ⟨v, rfl, r⟩ hi
theorem Iv.own (I : Iv Γ A H σ δ) (h : δ[i]? = some s) (ho : s.own = true) : ∃ p o, σ[i]? = some (some (.ref p)) ∧ A.M p ∧ ¬ A.B p ∧ Γ.H0 p = none ∧ H p = some o ∧ OwR Γ.G A H p o s := by
  obtain ⟨o, e, r⟩ := I.at_ _ _ h
  cases s with
  | @mu α i xs => obtain ⟨p, ho, e2, r⟩ := r; exact ⟨p, ho, by rw [e, e2], r⟩
  | @mp α i q xs => obtain ⟨p, ho, e2, r⟩ := r; exact ⟨p, ho, by rw [e, e2], r⟩
  | ob C q fs => obtain ⟨p, ho, e2, r⟩ := r; exact ⟨p, ho, by rw [e, e2], r⟩
  | _ => cases ho
/-- slots but the own one at i, where nothing else has changed -/
theorem Iv.other (I : Iv Γ A H σ δ) {j : Nat} {p : Addr} {t : Sl} (h : δ[i]? = some s) (ho : s.own = true) (e : σ[i]? = some (some (.ref p))) (hj : i ≠ j) (ej : δ[j]? = some t) (mv : Mv A H A' H')
    (km : ∀ q, q ≠ p → A.M q → A'.M q) (kb : ∀ q, A'.B q → A.B q) (kh : ∀ q, q ≠ p → H' q = H q) : ∃ o, σ[j]? = some o ∧ SlR Γ.G Γ.A0 Γ.H0 A' H' o t := by
  obtain ⟨o, e1, r⟩ := I.at_ j t ej
  refine ⟨o, e1, ?_⟩
  have own : t.own = true → OwnAt Γ.G Γ.H0 A H o t → OwnAt Γ.G Γ.H0 A' H' o t := fun ot ⟨q, u, e2, m2, b2, n2, h2, k2⟩ => by
    have nq : q ≠ p := fun z => by subst e2 z; exact I.sep i j _ _ q hj h ej ho ot e e1
    exact ⟨q, u, e2, km q nq m2, fun z => b2 (kb q z), n2, by rw [kh q nq]; exact h2, k2.mv mv⟩
  cases t with
  | un => trivial
  | @fx α i a => obtain ⟨v, e2, r⟩ := r; exact ⟨v, e2, Py.mv r mv⟩
  | @bo α i xs => obtain ⟨v, q, vs, e2, e3, r, k⟩ := r; exact ⟨v, q, vs, e2, e3, r, k.imp fun _ _ r => Py.mv r mv⟩
  | @mu α i' xs => exact own rfl r
  | @mp α i' q xs => exact own rfl r
  | ob C q fs => exact own rfl r
/-- slots are forgotten -/
inductive Le : List Sl → List Sl → Prop
  | nil : Le [] []
  | eq {s l m} : Le l m → Le (s :: l) (s :: m)
  | un {s l m} : Le l m → Le (s :: l) (.un :: m)
theorem Le.refl : ∀ l : List Sl, Le l l
  | [] => .nil
  | _ :: l => .eq (Le.refl l)
theorem Le.len : ∀ {l m : List Sl}, Le l m → l.length = m.length
  | _, _, .nil => rfl
  | _, _, .eq h => congrArg (· + 1) h.len
  | _, _, .un h => congrArg (· + 1) h.len
theorem Le.get : ∀ {l m : List Sl} (i : Nat) {s : Sl}, Le l m → m[i]? = some s → ∃ t, l[i]? = some t ∧ (t = s ∨ s = .un)
  | _, _, i, _, .nil, e => by simp at e
  | _, _, 0, _, .eq _, e => by simp at e; subst e; exact ⟨_, rfl, .inl rfl⟩
  | _, _, 0, _, .un _, e => by simp at e; subst e; exact ⟨_, rfl, .inr rfl⟩
  | _, _, i + 1, _, .eq h, e => by
    obtain ⟨t, h1, h2⟩ := h.get i (by simpa using e)
    exact ⟨t, by simpa using h1, h2⟩
  | _, _, i + 1, _, .un h, e => by
    obtain ⟨t, h1, h2⟩ := h.get i (by simpa using e)
    exact ⟨t, by simpa using h1, h2⟩
theorem Iv.le {δ' : List Sl} (I : Iv Γ A H σ δ) (l : Le δ δ') : Iv Γ A H σ δ' := by
  refine ⟨by rw [I.len, l.len], fun j t e => ?_, fun j k t u p hjk ej ek ot ou pj pk => ?_, I.d0, I.st, I.er⟩
  · obtain ⟨s, h1, h2⟩ := l.get j e
    obtain ⟨o, h3, h4⟩ := I.at_ j s h1
    rcases h2 with rfl | rfl
    · exact ⟨o, h3, h4⟩
    · exact ⟨o, h3, trivial⟩
  · obtain ⟨s, h1, h2⟩ := l.get j ej
    obtain ⟨s', h3, h4⟩ := l.get k ek
    rcases h2 with rfl | rfl
    · rcases h4 with rfl | rfl
      · exact I.sep j k _ _ p hjk h1 h3 ot ou pj pk
      · cases ou
    · cases ot
end

/-! ### judgements -/
def EvT {α : Type} [Pa α] (Γ : Cxt) (te : TE) (δ : List Sl) (m : W α) : Prop := ∀ σ A H Q, Iv Γ A H σ δ →
  m.run (fun a => ∀ v A' H', St A H A' H' → rep Γ.G A' H' v a → Q v H') Γ.Er → te σ H Q
/-- a list that is new and ours -/
def EvF {α : Type} [Py α] (Γ : Cxt) (te : TE) (δ : List Sl) (m : W (List α)) : Prop := ∀ σ A H Q, Iv Γ A H σ δ →
  m.run (fun xs => ∀ p vs A' H', H p = none → A'.M p → ¬ A'.B p → St A H A' H' → H' p = some (.lst vs) → All2 (rep Γ.G A' H') vs xs → Q (.ref p) H') Γ.Er → te σ H Q
def EvB (Γ : Cxt) (tt : TT) (δ : List Sl) (m : W Bool) : Prop := ∀ σ A H Q, Iv Γ A H σ δ →
  m.run (fun b => ∀ A' H', St A H A' H' → Q b H') Γ.Er → tt σ H Q
/-- arguments -/
class PaL (τ : Type) where
  repL : Gx → Av → Hp → List V → τ → Prop
  stL : ∀ {G A H A' H' vs t}, repL G A H vs t → Dom A H → St A H A' H' → repL G A' H' vs t
  n : Nat
  lenL : ∀ {G A H vs t}, repL G A H vs t → vs.length = n
open PaL (repL)
structure Nl where
structure Cn (α τ : Type) where
  a : α
  r : τ
instance : PaL Nl where
  repL := fun _ _ _ vs _ => vs = []
  stL := fun h _ _ => h
  n := 0
  lenL := fun h => by rw [h]; rfl
instance {α τ : Type} [Pa α] [PaL τ] : PaL (Cn α τ) where
  repL := fun G A H vs t => ∃ v r, vs = v :: r ∧ rep G A H v t.a ∧ repL G A H r t.r
  stL := fun ⟨v, r, e, h, k⟩ d s => ⟨v, r, e, Pa.st h d s, PaL.stL k d s⟩
  n := PaL.n τ + 1
  lenL := fun ⟨v, r, e, h, k⟩ => by rw [e, List.length_cons, PaL.lenL k]
def EvA {τ : Type} [PaL τ] (Γ : Cxt) (ta : TA) (δ : List Sl) (m : W τ) : Prop := ∀ σ A H Q, Iv Γ A H σ δ →
  m.run (fun t => ∀ vs A' H', St A H A' H' → repL Γ.G A' H' vs t → Q vs H') Γ.Er → ta σ H Q
/-- by values: an operator -/
def OpV {α β γ : Type} [Pa α] [Pa β] [Pa γ] (Γ : Cxt) (r : R2) (f : α → β → W γ) : Prop := ∀ x y A H Q a b, Dom A H → rep Γ.G A H x a → rep Γ.G A H y b →
  (f a b).run (fun c => ∀ v A' H', St A H A' H' → rep Γ.G A' H' v c → Q v H') Γ.Er → r x y H Q
def UnV {α γ : Type} [Pa α] [Pa γ] (Γ : Cxt) (r : V → Hp → VK → Prop) (f : α → W γ) : Prop := ∀ x A H Q a, Dom A H → rep Γ.G A H x a →
  (f a).run (fun c => ∀ v A' H', St A H A' H' → rep Γ.G A' H' v c → Q v H') Γ.Er → r x H Q
def CaV {τ γ : Type} [PaL τ] [Pa γ] (Γ : Cxt) (r : List V → Hp → VK → Prop) (f : τ → W γ) : Prop := ∀ xs A H Q t, Dom A H → repL Γ.G A H xs t →
  (f t).run (fun c => ∀ v A' H', St A H A' H' → rep Γ.G A' H' v c → Q v H') Γ.Er → r xs H Q
section
variable {Γ : Cxt} {δ : List Sl} {α β γ τ : Type} {ta tb te : TE} {tl : TA}
theorem ev_var [Py α] {i : Nat} {a : α} (h : δ[i]? = some (.fx α a) := by rfl) : EvT Γ (tVar i) δ (pure a) := fun σ A H Q I q => by
  obtain ⟨o, e, v, rfl, r⟩ := I.at_ _ _ h
  exact ⟨v, e, q v A H (St.refl I.dom) r⟩
theorem ev_bo [Py α] {i : Nat} {xs : List α} (h : δ[i]? = some (.bo α xs) := by rfl) : EvT (α := Bor α) Γ (tVar i) δ (pure ⟨xs⟩) := fun σ A H Q I q => by
  obtain ⟨o, e, v, p, vs, rfl, rfl, r, k⟩ := I.at_ _ _ h
  obtain ⟨n, r⟩ := r
  exact ⟨_, e, q _ A H (St.refl I.dom) ⟨p, vs, rfl, ⟨fun b => (I.st.nb p b).elim n (fun z => by rw [r] at z; cases z), I.st.k p _ n r⟩, k⟩⟩
theorem ev_mu [Py α] {i : Nat} {xs : List α} (h : δ[i]? = some (.mu α xs) := by rfl) : EvT (α := Bor α) Γ (tVar i) δ (pure ⟨xs⟩) := fun σ A H Q I q => by
  obtain ⟨o, e, p, ho, rfl, m, b, n, hh, vs, rfl, k⟩ := I.at_ _ _ h
  exact ⟨_, e, q _ A H (St.refl I.dom) ⟨p, vs, rfl, ⟨b, hh⟩, k⟩⟩
/-- a kept list, to be read -/
theorem ev_bor [Py α] {m : W (List α)} (h : EvT Γ te δ m) : EvT (α := Bor α) Γ te δ (m >>= fun xs => pure ⟨xs⟩) := fun σ A H Q I q => by
  refine h σ A H Q I (m.mono (fun xs q v A' H' s r => q v A' H' s ?_) (fun _ h => h) q)
  obtain ⟨p, vs, e, ⟨n, k⟩, z⟩ := r
  exact ⟨p, vs, e, ⟨fun b => n (s.d.s p b), k⟩, z⟩
theorem ev_int {i : Int} : EvT (α := Int) Γ (tC (.int i)) δ (pure i) := fun σ A H Q I q => q _ A H (St.refl I.dom) rfl
theorem ev_bl {b : Bool} : EvT (α := Bool) Γ (tC (.bl b)) δ (pure b) := fun σ A H Q I q => q _ A H (St.refl I.dom) rfl
theorem ev_str {b : Str} : EvT (α := Str) Γ (tC (.str b)) δ (pure b) := fun σ A H Q I q => q _ A H (St.refl I.dom) rfl
theorem ev_non : EvT (α := Unit) Γ (tC .non) δ (pure ()) := fun σ A H Q I q => q _ A H (St.refl I.dom) rfl
/-- another type for the same value -/
theorem ev_as [Pa α] [Pa β] {m : W α} (f : α → β) (hf : ∀ G A H v a, rep G A H v a → rep G A H v (f a)) (h : EvT Γ te δ m) : EvT Γ te δ (m >>= fun a => pure (f a)) := fun σ A H Q I q =>
  h σ A H Q I (m.mono (fun a q v A' H' s r => q v A' H' s (hf _ _ _ _ _ r)) (fun _ h => h) q)
theorem ev_none [Py α] {m : W Unit} (h : EvT Γ te δ m) : EvT (α := Option α) Γ te δ (m >>= fun _ => pure none) := ev_as (fun _ => none) (fun _ _ _ _ _ r => r) h
/-- values that are not None -/
class NN (α : Type) [Py α] : Prop where
  nn : ∀ {G A H v} {a : α}, rep G A H v a → v ≠ .non
instance : NN Int := ⟨fun {G A H v a} (h : v = _) e => by rw [h] at e; cases e⟩
instance : NN Bool := ⟨fun {G A H v a} (h : v = _) e => by rw [h] at e; cases e⟩
instance : NN Str := ⟨fun {G A H v a} (h : v = _) e => by rw [h] at e; cases e⟩
instance [Py α] : NN (List α) := ⟨fun ⟨p, vs, h, _⟩ e => by rw [h] at e; cases e⟩
instance [Py α] : NN (Tup α) := ⟨fun ⟨p, vs, h, _⟩ e => by rw [h] at e; cases e⟩
theorem ev_some [Py α] [NN α] {m : W α} (h : EvT Γ te δ m) : EvT (α := Option α) Γ te δ (m >>= fun a => pure (some a)) := ev_as some (fun _ _ _ _ _ r => ⟨NN.nn r, r⟩) h
theorem ev_op [Pa α] [Pa β] [Pa γ] {r : R2} {f : α → β → W γ} {ma : W α} {mb : W β} (hr : OpV Γ r f) (ha : EvT Γ ta δ ma) (hb : EvT Γ tb δ mb) : EvT Γ (tOp r ta tb) δ (ma >>= fun a => mb >>= fun b => f a b) := fun σ A H Q I q => by
  refine ha σ A H _ I (ma.mono (fun a q x A1 H1 s1 r1 => ?_) (fun _ h => h) q)
  refine hb σ A1 H1 _ (I.step s1) (mb.mono (fun b q y A2 H2 s2 r2 => ?_) (fun _ h => h) q)
  exact hr x y A2 H2 Q a b s2.d (Pa.st r1 s1.d s2) r2 ((f a b).mono (fun c q v A3 H3 s3 r3 => q v A3 H3 ((s1.trans s2).trans s3) r3) (fun _ h => h) q)
theorem ev_un [Pa α] [Pa γ] {r : V → Hp → VK → Prop} {f : α → W γ} {ma : W α} (hr : UnV Γ r f) (ha : EvT Γ ta δ ma) : EvT Γ (tUn r ta) δ (ma >>= f) := fun σ A H Q I q => by
  refine ha σ A H _ I (ma.mono (fun a q x A1 H1 s1 r1 => ?_) (fun _ h => h) q)
  exact hr x A1 H1 Q a s1.d r1 ((f a).mono (fun c q v A3 H3 s3 r3 => q v A3 H3 (s1.trans s3) r3) (fun _ h => h) q)
theorem ea_nil : EvA Γ tNil δ (pure Nl.mk) := fun σ A H Q I q => q [] A H (St.refl I.dom) rfl
theorem ea_cons [Pa α] [PaL τ] {ma : W α} {ml : W τ} (ha : EvT Γ ta δ ma) (hl : EvA Γ tl δ ml) : EvA Γ (tCons ta tl) δ (ma >>= fun a => ml >>= fun r => pure (Cn.mk a r)) := fun σ A H Q I q => by
  refine ha σ A H _ I (ma.mono (fun a q x A1 H1 s1 r1 => ?_) (fun _ h => h) q)
  refine hl σ A1 H1 _ (I.step s1) (ml.mono (fun t q vs A2 H2 s2 r2 => ?_) (fun _ h => h) q)
  exact q (x :: vs) A2 H2 (s1.trans s2) ⟨x, vs, rfl, Pa.st r1 s1.d s2, r2⟩
theorem ev_ca [PaL τ] [Pa γ] {r : List V → Hp → VK → Prop} {f : τ → W γ} {m : W τ} (hr : CaV Γ r f) (ha : EvA Γ tl δ m) : EvT Γ (tCB r tl) δ (m >>= f) := fun σ A H Q I q => by
  refine ha σ A H _ I (m.mono (fun a q x A1 H1 s1 r1 => ?_) (fun _ h => h) q)
  exact hr x A1 H1 Q a s1.d r1 ((f a).mono (fun c q v A3 H3 s3 r3 => q v A3 H3 (s1.trans s3) r3) (fun _ h => h) q)

/-! ### operators on ints -/
theorem ov_I {g : Int → Int → V} {f : Int → Int → Int} (h : ∀ i j, g i j = .int (f i j)) : OpV Γ (rI0 g) (fun (a b : Int) => (pure (f a b) : W Int)) := fun x y A H Q a b d hx hy q =>
  ⟨a, b, hx, hy, q _ A H (St.refl d) (h a b)⟩
theorem ov_B {g : Int → Int → V} {f : Int → Int → Bool} (h : ∀ i j, g i j = .bl (f i j)) : OpV Γ (rI0 g) (fun (a b : Int) => (pure (f a b) : W Bool)) := fun x y A H Q a b d hx hy q =>
  ⟨a, b, hx, hy, q _ A H (St.refl d) (h a b)⟩
theorem ov_IC {C : Int → Int → Prop} {g : Int → Int → V} {f : Int → Int → Int} (h : ∀ i j, g i j = .int (f i j)) : OpV Γ (rI C g) (fun (a b : Int) => W.need (C a b) >>= fun _ => (pure (f a b) : W Int)) := fun x y A H Q a b d hx hy q =>
  ⟨a, b, hx, hy, q.1, q.2 _ A H (St.refl d) (h a b)⟩
theorem ov_add : OpV Γ (rI0 fun i j => .int (i + j)) (fun (a b : Int) => (pure (a + b) : W Int)) := ov_I fun _ _ => rfl
theorem ov_sub : OpV Γ (rI0 fun i j => .int (i - j)) (fun (a b : Int) => (pure (a - b) : W Int)) := ov_I fun _ _ => rfl
theorem ov_and : OpV Γ (rI0 fun i j => .int (Builtin.bitAnd i j)) (fun (a b : Int) => (pure (Builtin.bitAnd a b) : W Int)) := ov_I fun _ _ => rfl
theorem ov_or : OpV Γ (rI0 fun i j => .int (Builtin.bitOr i j)) (fun (a b : Int) => (pure (Builtin.bitOr a b) : W Int)) := ov_I fun _ _ => rfl
theorem ov_xor : OpV Γ (rI0 fun i j => .int (Builtin.bitXor i j)) (fun (a b : Int) => (pure (Builtin.bitXor a b) : W Int)) := ov_I fun _ _ => rfl
theorem ov_mul : OpV Γ (rI CMulW fun i j => .int (i * j)) (fun (a b : Int) => W.need (CMulW a b) >>= fun _ => (pure (a * b) : W Int)) := ov_IC fun _ _ => rfl
theorem ov_fdiv : OpV Γ (rI CDivW fun i j => .int (i / j)) (fun (a b : Int) => W.need (CDivW a b) >>= fun _ => (pure (a / b) : W Int)) := ov_IC fun _ _ => rfl
theorem ov_mod : OpV Γ (rI (fun _ j => 0 < j) fun i j => .int (i % j)) (fun (a b : Int) => W.need (0 < b) >>= fun _ => (pure (a % b) : W Int)) := fun x y A H Q a b d hx hy q => ⟨a, b, hx, hy, q.1, q.2 _ A H (St.refl d) rfl⟩
theorem ov_shl : OpV Γ (rI CPow fun i j => .int (i * 2 ^ j.toNat)) (fun (a b : Int) => W.need (CPow a b) >>= fun _ => (pure (a * 2 ^ b.toNat) : W Int)) := ov_IC fun _ _ => rfl
theorem ov_pow : OpV Γ (rI CPow fun i j => .int (i ^ j.toNat)) (fun (a b : Int) => W.need (CPow a b) >>= fun _ => (pure (a ^ b.toNat) : W Int)) := ov_IC fun _ _ => rfl
theorem ov_shr : OpV Γ (rI (fun _ j => 0 ≤ j) fun i j => .int (i / 2 ^ j.toNat)) (fun (a b : Int) => W.need (0 ≤ b) >>= fun _ => (pure (a / 2 ^ b.toNat) : W Int)) := fun x y A H Q a b d hx hy q => ⟨a, b, hx, hy, q.1, q.2 _ A H (St.refl d) rfl⟩
theorem ov_lt : OpV Γ (rI0 fun i j => .bl (decide (i < j))) (fun (a b : Int) => (pure (decide (a < b)) : W Bool)) := ov_B fun _ _ => rfl
theorem ov_le : OpV Γ (rI0 fun i j => .bl (decide (i ≤ j))) (fun (a b : Int) => (pure (decide (a ≤ b)) : W Bool)) := ov_B fun _ _ => rfl
theorem ov_gt : OpV Γ (rI0 fun i j => .bl (decide (j < i))) (fun (a b : Int) => (pure (decide (b < a)) : W Bool)) := ov_B fun _ _ => rfl
theorem ov_ge : OpV Γ (rI0 fun i j => .bl (decide (j ≤ i))) (fun (a b : Int) => (pure (decide (b ≤ a)) : W Bool)) := ov_B fun _ _ => rfl
theorem uv_neg : UnV Γ (rU fun i => .int (-i)) (fun a => (pure (-a) : W Int)) := fun x A H Q a d hx q => ⟨a, hx, q _ A H (St.refl d) rfl⟩
theorem uv_inv : UnV Γ (rU fun i => .int (Builtin.bitNot i)) (fun a => (pure (Builtin.bitNot a) : W Int)) := fun x A H Q a d hx q => ⟨a, hx, q _ A H (St.refl d) rfl⟩

/-! ### values without parts: ==, !=, is -/
class Fl (α : Type) [Py α] where
  to : α → V
  rp : ∀ {G A H v} {a : α}, rep G A H v a → v = to a
  sc : ∀ a : α, to a = .non ∨ (∃ i, to a = .int i) ∨ (∃ b, to a = .bl b) ∨ ∃ s, to a = .str s
instance : Fl Int := ⟨.int, fun h => h, fun a => .inr (.inl ⟨a, rfl⟩)⟩
instance : Fl Bool := ⟨.bl, fun h => h, fun a => .inr (.inr (.inl ⟨a, rfl⟩))⟩
instance : Fl Str := ⟨.str, fun h => h, fun a => .inr (.inr (.inr ⟨a, rfl⟩))⟩
instance : Fl Unit := ⟨fun _ => .non, fun h => h, fun _ => .inl rfl⟩
instance [Py α] [Fl α] : Fl (Option α) := ⟨fun o => match o with | none => .non | some a => Fl.to a, fun {G A H v a} h => match a, h with | none, h => h | some _, h => Fl.rp h.2, fun a => match a with | none => .inl rfl | some a => Fl.sc a⟩
/-- the same kind, or one of the two is None -/
def fits (x y : V) : Prop := scal x y = true
def pyEq [Py α] [Py β] [Fl α] [Fl β] (a : α) (b : β) : Bool := decide (Fl.to a = Fl.to b)
theorem ov_eq [Py α] [Py β] [Fl α] [Fl β] (hs : ∀ (a : α) (b : β), scal (Fl.to a) (Fl.to b) = true) : OpV Γ rEq (fun (a : α) (b : β) => (pure (pyEq a b) : W Bool)) := fun x y A H Q a b d hx hy q => by
  have e1 := Fl.rp hx
  have e2 := Fl.rp hy
  subst e1 e2
  exact ⟨hs a b, q _ A H (St.refl d) rfl⟩
theorem ov_ne [Py α] [Py β] [Fl α] [Fl β] (hs : ∀ (a : α) (b : β), scal (Fl.to a) (Fl.to b) = true) : OpV Γ rNe (fun (a : α) (b : β) => (pure (!pyEq a b) : W Bool)) := fun x y A H Q a b d hx hy q => by
  have e1 := Fl.rp hx
  have e2 := Fl.rp hy
  subst e1 e2
  exact ⟨hs a b, q _ A H (St.refl d) rfl⟩
theorem sc_ii (a b : Int) : scal (Fl.to a) (Fl.to b) = true := rfl
theorem sc_ss (a b : Str) : scal (Fl.to a) (Fl.to b) = true := rfl
theorem sc_bb (a b : Bool) : scal (Fl.to a) (Fl.to b) = true := rfl
theorem sc_oi (a : Option Int) (b : Int) : scal (Fl.to a) (Fl.to b) = true := by cases a <;> rfl
theorem sc_io (a : Int) (b : Option Int) : scal (Fl.to a) (Fl.to b) = true := by cases b <;> rfl
theorem sc_oo (a b : Option Int) : scal (Fl.to a) (Fl.to b) = true := by cases a <;> cases b <;> rfl
theorem sc_os (a : Option Str) (b : Str) : scal (Fl.to a) (Fl.to b) = true := by cases a <;> rfl
theorem sc_oos (a b : Option Str) : scal (Fl.to a) (Fl.to b) = true := by cases a <;> cases b <;> rfl
@[simp] theorem pyEq_ii (a b : Int) : pyEq a b = decide (a = b) := by
  unfold pyEq
  by_cases h : a = b
  · subst h; simp
  · rw [decide_eq_false h, decide_eq_false]
    intro e
    exact h (V.int.inj e)
@[simp] theorem pyEq_bb (a b : Bool) : pyEq a b = decide (a = b) := by cases a <;> cases b <;> rfl
@[simp] theorem pyEq_ss (a b : Str) : pyEq a b = decide (a = b) := by
  unfold pyEq
  by_cases h : a = b
  · subst h; simp
  · rw [decide_eq_false h, decide_eq_false]
    intro e
    exact h (V.str.inj e)
@[simp] theorem pyEq_oo (a b : Option Int) : pyEq a b = decide (a = b) := by
  unfold pyEq
  by_cases h : a = b
  · subst h; simp
  · rw [decide_eq_false h, decide_eq_false]
    intro e
    apply h
    cases a <;> cases b
    · rfl
    · cases e
    · cases e
    · exact congrArg some (V.int.inj e)
@[simp] theorem pyEq_oi (a : Option Int) (b : Int) : pyEq a b = decide (a = some b) := by rw [← pyEq_oo]; rfl
@[simp] theorem pyEq_io (a : Int) (b : Option Int) : pyEq a b = decide (some a = b) := by rw [← pyEq_oo]; rfl
theorem ev_isN [Py α] {m : W (Option α)} (h : EvT Γ ta δ m) : EvT Γ (tOp rIsN ta (tC .non)) δ (m >>= fun a => (pure a.isNone : W Bool)) := fun σ A H Q I q => by
  refine h σ A H _ I (m.mono (fun a q v A1 H1 s1 r1 => ?_) (fun _ h => h) q)
  refine ⟨rfl, q _ A1 H1 s1 ?_⟩
  show V.bl _ = V.bl _
  congr 1
  cases a with
  | none => rw [show v = .non from r1]; rfl
  | some a => rw [decide_eq_false r1.1]; rfl
theorem ev_notN [Py α] {m : W (Option α)} (h : EvT Γ ta δ m) : EvT Γ (tOp rNotN ta (tC .non)) δ (m >>= fun a => (pure a.isSome : W Bool)) := fun σ A H Q I q => by
  refine h σ A H _ I (m.mono (fun a q v A1 H1 s1 r1 => ?_) (fun _ h => h) q)
  refine ⟨rfl, q _ A1 H1 s1 ?_⟩
  show V.bl _ = V.bl _
  congr 1
  cases a with
  | none => rw [show v = .non from r1]; rfl
  | some a => rw [decide_eq_false r1.1]; rfl
theorem ov_is : OpV Γ rIsB (fun (a b : Bool) => (pure (decide (a = b)) : W Bool)) := fun x y A H Q a b d hx hy q => ⟨a, b, hx, hy, q _ A H (St.refl d) rfl⟩
theorem ov_isnot : OpV Γ rNotB (fun (a b : Bool) => (pure (!decide (a = b)) : W Bool)) := fun x y A H Q a b d hx hy q => ⟨a, b, hx, hy, q _ A H (St.refl d) rfl⟩

/-! ### tests, bools -/
theorem eb_test {m : W Bool} (h : EvT Γ te δ m) : EvB Γ (tTest te) δ m := fun σ A H Q I q => h σ A H _ I (m.mono (fun b q v A' H' s r => ⟨b, r, q A' H' s⟩) (fun _ h => h) q)
theorem eb_val {m : W Bool} (h : EvT Γ te δ m) : EvB Γ (tB te) δ m := fun σ A H Q I q => h σ A H _ I (m.mono (fun b q v A' H' s r => ⟨b, r, q A' H' s⟩) (fun _ h => h) q)
theorem eb_not {t : TT} {m : W Bool} (h : EvB Γ t δ m) : EvB Γ (tNot t) δ (m >>= fun b => pure (!b)) := fun σ A H Q I q => h σ A H _ I q
theorem eb_and {t u : TT} {m n : W Bool} (h : EvB Γ t δ m) (k : EvB Γ u δ n) : EvB Γ (tAnd t u) δ (m >>= fun b => if b = true then n else pure false) := fun σ A H Q I q => by
  refine h σ A H _ I (m.mono (fun b q A' H' s => ?_) (fun _ h => h) q)
  cases b with
  | true => exact iteT (k σ A' H' Q (I.step s) (n.mono (fun c q A'' H'' s' => q A'' H'' (s.trans s')) (fun _ h => h) q))
  | false => exact iteF (q A' H' s)
theorem eb_or {t u : TT} {m n : W Bool} (h : EvB Γ t δ m) (k : EvB Γ u δ n) : EvB Γ (tOr t u) δ (m >>= fun b => if b = true then pure true else n) := fun σ A H Q I q => by
  refine h σ A H _ I (m.mono (fun b q A' H' s => ?_) (fun _ h => h) q)
  cases b with
  | true => exact iteT (q A' H' s)
  | false => exact iteF (k σ A' H' Q (I.step s) (n.mono (fun c q A'' H'' s' => q A'' H'' (s.trans s')) (fun _ h => h) q))
theorem ev_and {m n : W Bool} (h : EvT Γ ta δ m) (k : EvT Γ tb δ n) : EvT Γ (tAndV ta tb) δ (m >>= fun b => if b = true then n else pure false) := fun σ A H Q I q => by
  refine h σ A H _ I (m.mono (fun b q v A' H' s r => ⟨b, r, ?_⟩) (fun _ h => h) q)
  cases b with
  | true => exact iteT (k σ A' H' Q (I.step s) (n.mono (fun c q v A'' H'' s' => q v A'' H'' (s.trans s')) (fun _ h => h) q))
  | false => exact iteF (q _ A' H' s rfl)
theorem ev_or {m n : W Bool} (h : EvT Γ ta δ m) (k : EvT Γ tb δ n) : EvT Γ (tOrV ta tb) δ (m >>= fun b => if b = true then pure true else n) := fun σ A H Q I q => by
  refine h σ A H _ I (m.mono (fun b q v A' H' s r => ⟨b, r, ?_⟩) (fun _ h => h) q)
  cases b with
  | true => exact iteT (q _ A' H' s rfl)
  | false => exact iteF (k σ A' H' Q (I.step s) (n.mono (fun c q v A'' H'' s' => q v A'' H'' (s.trans s')) (fun _ h => h) q))
theorem ev_not {m : W Bool} (h : EvT Γ ta δ m) : EvT Γ (tNotV ta) δ (m >>= fun b => (pure (!b) : W Bool)) := fun σ A H Q I q =>
  h σ A H _ I (m.mono (fun b q v A' H' s r => ⟨b, r, q _ A' H' s rfl⟩) (fun _ h => h) q)
theorem ev_if [Pa α] {t : TT} {mc : W Bool} {m n : W α} (hc : EvB Γ t δ mc) (h : EvT Γ ta δ m) (k : EvT Γ tb δ n) : EvT Γ (tIf t ta tb) δ (mc >>= fun b => if b = true then m else n) := fun σ A H Q I q => by
  refine hc σ A H _ I (mc.mono (fun b q A' H' s => ?_) (fun _ h => h) q)
  cases b with
  | true => exact iteT (h σ A' H' Q (I.step s) (m.mono (fun c q v A'' H'' s' => q v A'' H'' (s.trans s')) (fun _ h => h) q))
  | false => exact iteF (k σ A' H' Q (I.step s) (n.mono (fun c q v A'' H'' s' => q v A'' H'' (s.trans s')) (fun _ h => h) q))
/-- truth of a value -/
class Tr (α : Type) [Pa α] where
  tr : α → Bool
  ok : ∀ {G A H v} {a : α}, rep G A H v a → TruV G.K v H (tr a)
instance : Tr Int := ⟨fun i => i != 0, fun {G A H v a} (h : v = _) => by subst h; exact rfl⟩
instance : Tr Bool := ⟨fun b => b, fun {G A H v a} (h : v = _) => by subst h; exact rfl⟩
theorem All2.emp {α β : Type} {R : α → β → Prop} {l : List α} {m : List β} (h : All2 R l m) : (!m.isEmpty) = !l.isEmpty := by cases h <;> rfl
instance [Py α] : Tr (List α) := ⟨fun l => !l.isEmpty, fun {G A H v a} ⟨p, vs, e, h, k⟩ => by subst e; exact .inl ⟨vs, h.sq, k.emp⟩⟩
instance [Py α] : Tr (Tup α) := ⟨fun l => !l.l.isEmpty, fun {G A H v a} ⟨p, vs, e, h, k⟩ => by subst e; exact .inr (.inl ⟨vs, h.sq, k.emp⟩)⟩
theorem bor_sq [Py α] {G : Gx} {A : Av} {H : Hp} {v : V} {a : Bor α} (h : rep G A H v a) : ∃ p vs, v = .ref p ∧ SqL G.K H p vs ∧ All2 (rep G A H) vs a.l := by
  obtain ⟨p, vs, e, h, k⟩ := h
  exact ⟨p, vs, e, .inl (.inl h.2), k⟩
instance [Py α] : Tr (Bor α) := ⟨fun l => !l.l.isEmpty, fun {G A H v a} h => by
  obtain ⟨p, vs, e, h', k⟩ := bor_sq h
  subst e; exact .inl ⟨vs, h', k.emp⟩⟩
theorem eb_truth [Pa α] [Tr α] {m : W α} (h : EvT Γ te δ m) : EvB Γ (fun σ H Q => te σ H fun x H' => ∃ k, TruV Γ.G.K x H' k ∧ Q k H') δ (m >>= fun a => (pure (Tr.tr a) : W Bool)) := fun σ A H Q I q =>
  h σ A H _ I (m.mono (fun b q v A' H' s r => ⟨_, Tr.ok r, q A' H' s⟩) (fun _ h => h) q)
/-- a chain a <= b <= c -/
theorem ev_chain [Pa α] [Pa β] [Pa γ] {r r' : R2} {f : α → β → W Bool} {g : β → γ → W Bool} {tc : TE} {ma : W α} {mb : W β} {mc : W γ} (hr : OpV Γ r f) (hr' : OpV Γ r' g) (ha : EvT Γ ta δ ma) (hb : EvT Γ tb δ mb) (hc : EvT Γ tc δ mc) :
    EvT Γ (tChain r r' ta tb tc) δ (ma >>= fun a => mb >>= fun b => f a b >>= fun z => if z = true then mc >>= fun c => g b c else pure false) := fun σ A H Q I q => by
  refine ha σ A H _ I (ma.mono (fun a q x A1 H1 s1 r1 => ?_) (fun _ h => h) q)
  refine hb σ A1 H1 _ (I.step s1) (mb.mono (fun b q y A2 H2 s2 r2 => ?_) (fun _ h => h) q)
  refine hr x y A2 H2 _ a b s2.d (Pa.st r1 s1.d s2) r2 ((f a b).mono (fun z q v A3 H3 s3 r3 => ⟨z, r3, ?_⟩) (fun _ h => h) q)
  have s13 := (s1.trans s2).trans s3
  cases z with
  | false => exact iteF (q _ A3 H3 s13 rfl)
  | true =>
    refine iteT (hc σ A3 H3 _ (I.step s13) (mc.mono (fun c q w A4 H4 s4 r4 => ?_) (fun _ h => h) q))
    exact hr' y w A4 H4 Q b c s4.d (Pa.st (Pa.st r2 s2.d s3) s3.d s4) r4 ((g b c).mono (fun c q v A5 H5 s5 r5 => q v A5 H5 ((s13.trans s4).trans s5) r5) (fun _ h => h) q)
end
end TW
set_option Elab.async false
set_option maxRecDepth 100000
set_option maxHeartbeats 4000000
set_option linter.all false
set_option autoImplicit false
/-! TW2: statements, loops, comprehensions -/
namespace TW
open Pa (rep)
open PaL (repL)
open PySem L2

/-- a block's end: what follows, a return, a break, a continue -/
inductive Res (S β L : Type) where
  | nx (s : S) | rt (b : β) | bk (l : L) | ct (l : L)
def Wish {S β L : Type} [Pa β] (Γ : Cxt) (A : Av) (H : Hp) (D : Ends) (Δ : S → List Sl) (ΔL : L → List Sl) : Res S β L → Prop
  | .nx s => ∀ σ' A' H', Mv A H A' H' → Iv Γ A' H' σ' (Δ s) → D.nx σ' H'
  | .rt b => ∀ v A' H', St Γ.A0 Γ.H0 A' H' → rep Γ.G A' H' v b → D.rt v H'
  | .bk l => ∀ σ' A' H', Mv A H A' H' → Iv Γ A' H' σ' (ΔL l) → D.bk σ' H'
  | .ct l => ∀ σ' A' H', Mv A H A' H' → Iv Γ A' H' σ' (ΔL l) → D.ct σ' H'
def StT {S β L : Type} [Pa β] (Γ : Cxt) (ts : TS) (δ : List Sl) (m : W (Res S β L)) (Δ : S → List Sl) (ΔL : L → List Sl) : Prop :=
  ∀ σ A H D, Iv Γ A H σ δ → m.run (Wish Γ A H D Δ ΔL) Γ.Er → ts D σ H
theorem Mv.trans {A A' A'' : Av} {H H' H'' : Hp} (a : Mv A H A' H') (b : Mv A' H' A'' H'') : Mv A H A'' H'' where
  m := fun p h => (b.m p h).elim (a.m p) fun e => by
    by_cases hm : A.M p
    · exact .inl hm
    · refine .inr ?_
      cases q : H p with
      | none => rfl
      | some o => rw [a.k p o hm q] at e; cases e
  k := fun p o n e => b.k p o (fun h => (a.m p h).elim n fun z => by rw [z] at e; cases e) (a.k p o n e)
  b := fun p h => b.b p (a.b p h).1
section
variable {Γ : Cxt} {A A' : Av} {H H' : Hp} {σ : L2.St} {δ δ' : List Sl} {S S1 β L α : Type} [Pa β] {Δ : S → List Sl} {ΔL : L → List Sl} {D : Ends} {ts t u : TS} {te : TE}
theorem Iv.stepMv (I : Iv Γ A H σ δ) (s : St A H A' H') : Mv A H A' H' := s.mv I.dom
theorem Wish.mv {r : Res S β L} (w : Wish Γ A H D Δ ΔL r) (k : Mv A H A' H') : Wish Γ A' H' D Δ ΔL r := by
  cases r with
  | nx s => exact fun σ' A'' H'' m I => w σ' A'' H'' (k.trans m) I
  | rt b => exact w
  | bk l => exact fun σ' A'' H'' m I => w σ' A'' H'' (k.trans m) I
  | ct l => exact fun σ' A'' H'' m I => w σ' A'' H'' (k.trans m) I
def seqW (m : W (Res S1 β L)) (f : S1 → W (Res S β L)) : W (Res S β L) := m >>= fun r => match r with
  | .nx s => f s
  | .rt b => pure (.rt b)
  | .bk l => pure (.bk l)
  | .ct l => pure (.ct l)
theorem st_nil (s : S) (h : Le δ (Δ s)) : StT (β := β) Γ tNext δ (pure (.nx s)) Δ ΔL := fun σ A H D I q => q σ A H (Mv.refl I.dom) (I.le h)
theorem st_seq {Δ1 : S1 → List Sl} {m : W (Res S1 β L)} {f : S1 → W (Res S β L)} (h1 : StT Γ t δ m Δ1 ΔL) (h2 : ∀ s, StT Γ u (Δ1 s) (f s) Δ ΔL) : StT Γ (tSeq t u) δ (seqW m f) Δ ΔL := fun σ A H D I q => by
  refine h1 σ A H _ I (m.mono (fun r q => ?_) (fun _ h => h) q)
  cases r with
  | nx s => exact fun σ' A' H' k I' => h2 s σ' A' H' D I' ((f s).mono (fun r w => w.mv k) (fun _ h => h) q)
  | rt b => exact q
  | bk l => exact q
  | ct l => exact q
theorem st_set [Py α] {i : Nat} {m : W α} (h : EvT Γ te δ m) (hi : i < δ.length := by first | decide | simp) : StT (β := β) (L := L) Γ (tAsg te (gName i)) δ (m >>= fun a => pure (.nx a)) (fun a => δ.set i (.fx α a)) ΔL := fun σ A H D I q => by
  refine h σ A H _ I (m.mono (fun a q v A' H' s r => ?_) (fun _ h => h) q)
  exact q _ A' H' (I.stepMv s) ((I.step s).fx r hi)
/-- a new list into a slot, as our own -/
theorem Iv.putM [Py α] (I : Iv Γ A H σ δ) {i : Nat} {p : Addr} {vs : List V} {xs : List α} (n : H p = none) (m : A'.M p) (b : ¬ A'.B p) (s : St A H A' H') (h : H' p = some (.lst vs)) (k : All2 (rep Γ.G A' H') vs xs) (hi : i < δ.length) :
    Iv Γ A' H' (σ.set i (some (.ref p))) (δ.set i (.mu α xs)) := by
  have I' := I.step s
  have np : ∀ (j : Nat) (t : Sl), δ[j]? = some t → t.own = true → σ[j]? = some (some (.ref p)) → False := fun j t ej ot pj => by
    obtain ⟨q, o, e1, _, _, _, hh, _⟩ := I.own ej ot
    rw [e1] at pj
    cases pj
    rw [n] at hh; cases hh
  refine ⟨by simp [I.len], fun j t e => ?_, fun j k t u q hjk ej ek ot ou pj pk => ?_, I.d0, I'.st, I.er⟩
  · by_cases hj : i = j
    · subst hj
      rw [List.getElem?_set_self hi] at e
      cases e
      exact ⟨_, by rw [List.getElem?_set_self (by rw [I.len]; exact hi)], p, _, rfl, m, b, I.st.none n, h, vs, rfl, k⟩
    · rw [List.getElem?_set_ne hj] at e ⊢
      exact I'.at_ j t e
  · by_cases hj : i = j
    · subst hj
      have hk : i ≠ k := hjk
      rw [List.getElem?_set_ne hk] at ek pk
      rw [List.getElem?_set_self (by rw [I.len]; exact hi)] at pj
      cases pj
      exact np k u ek ou pk
    · rw [List.getElem?_set_ne hj] at ej pj
      by_cases hk : i = k
      · subst hk
        rw [List.getElem?_set_self (by rw [I.len]; exact hi)] at pk
        cases pk
        exact np j t ej ot pj
      · rw [List.getElem?_set_ne hk] at ek pk
        exact I.sep j k t u q hjk ej ek ot ou pj pk
theorem st_setM [Py α] {i : Nat} {m : W (List α)} (h : EvF Γ te δ m) (hi : i < δ.length := by first | decide | simp) : StT (β := β) (L := L) Γ (tAsg te (gName i)) δ (m >>= fun a => pure (.nx a)) (fun a => δ.set i (.mu α a)) ΔL := fun σ A H D I q => by
  refine h σ A H _ I (m.mono (fun a q p vs A' H' n hm hb s hp k => ?_) (fun _ h => h) q)
  exact q _ A' H' (I.stepMv s) (I.putM n hm hb s hp k hi)
/-- a new list, kept -/
theorem ev_fr [Py α] {m : W (List α)} (h : EvF Γ te δ m) : EvT Γ te δ m := fun σ A H Q I q => by
  refine h σ A H _ I (m.mono (fun a q p vs A' H' n hm hb s hp k => ?_) (fun _ h => h) q)
  refine q _ (A'.del p) H' (s.del I.dom n hb) ⟨p, vs, rfl, ⟨fun z => z.2 rfl, hp⟩, k.imp fun _ _ r => Py.mv r (Mv.del s.d)⟩
theorem st_drop [Pa α] {m : W α} (h : EvT Γ te δ m) : StT (β := β) (L := L) Γ (tDrop te) δ (m >>= fun _ => pure (.nx ())) (fun _ => δ) ΔL := fun σ A H D I q => by
  refine h σ A H _ I (m.mono (fun a q v A' H' s r => ?_) (fun _ h => h) q)
  exact q σ A' H' (I.stepMv s) (I.step s)
theorem st_ret {m : W β} (h : EvT Γ te δ m) : StT (S := S) (L := L) Γ (tRet te) δ (m >>= fun a => pure (.rt a)) Δ ΔL := fun σ A H D I q => by
  refine h σ A H _ I (m.mono (fun a q v A' H' s r => ?_) (fun _ h => h) q)
  exact q v A' H' (I.st.trans s) r
theorem st_retN : StT (S := S) (L := L) (β := Unit) Γ tRetN δ (pure (.rt ())) Δ ΔL := fun σ A H D I q => q .non A H I.st rfl
/-- return of a list of our own -/
theorem st_retM [Py α] {i : Nat} {xs : List α} (h : δ[i]? = some (.mu α xs) := by rfl) : StT (S := S) (L := L) (β := List α) Γ (tRet (tVar i)) δ (pure (.rt xs)) Δ ΔL := fun σ A H D I q => by
  obtain ⟨o, e, p, ho, rfl, m, b, n, hh, vs, rfl, k⟩ := I.at_ _ _ h
  refine ⟨_, e, q _ (A.del p) H (I.st.del I.d0 n b) ⟨p, vs, rfl, ⟨fun z => z.2 rfl, hh⟩, k.imp fun _ _ r => Py.mv r (Mv.del I.dom)⟩⟩
theorem st_brk (l : L) (h : Le δ (ΔL l)) : StT (S := S) (β := β) Γ tBreak δ (pure (.bk l)) Δ ΔL := fun σ A H D I q => q σ A H (Mv.refl I.dom) (I.le h)
theorem st_ct (l : L) (h : Le δ (ΔL l)) : StT (S := S) (β := β) Γ tCont δ (pure (.ct l)) Δ ΔL := fun σ A H D I q => q σ A H (Mv.refl I.dom) (I.le h)
theorem st_if {c : TT} {mc : W Bool} {m n : W (Res S β L)} (hc : EvB Γ c δ mc) (h1 : StT Γ t δ m Δ ΔL) (h2 : StT Γ u δ n Δ ΔL) : StT Γ (tIfS c t u) δ (mc >>= fun b => if b = true then m else n) Δ ΔL := fun σ A H D I q => by
  refine hc σ A H _ I (mc.mono (fun b q A' H' s => ?_) (fun _ h => h) q)
  cases b with
  | true => exact iteT (h1 σ A' H' D (I.step s) (m.mono (fun r w => w.mv (I.stepMv s)) (fun _ h => h) q))
  | false => exact iteF (h2 σ A' H' D (I.step s) (n.mono (fun r w => w.mv (I.stepMv s)) (fun _ h => h) q))
/-- a list of our own is kept from here on -/
theorem Iv.keep [Py α] {i : Nat} {xs : List α} (I : Iv Γ A H σ δ) (h : δ[i]? = some (.mu α xs)) : ∃ A', Mv A H A' H ∧ Iv Γ A' H σ (δ.set i (.fx (List α) xs)) := by
  obtain ⟨o, e, p, ho, rfl, m, b, n, hh, vs, rfl, k⟩ := I.at_ _ _ h
  have hi : i < δ.length := (List.getElem?_eq_some_iff.mp h).1
  refine ⟨A.del p, Mv.del I.dom, by simp [I.len], fun j t ej => ?_, fun j k t u q hjk ej ek ot ou pj pk => ?_, I.d0, I.st.del I.d0 n b, I.er⟩
  · by_cases hj : i = j
    · subst hj
      rw [List.getElem?_set_self hi] at ej
      cases ej
      exact ⟨_, e, _, rfl, p, vs, rfl, ⟨fun z => z.2 rfl, hh⟩, k.imp fun _ _ r => Py.mv r (Mv.del I.dom)⟩
    · rw [List.getElem?_set_ne hj] at ej
      exact I.other h rfl e hj ej (Mv.del I.dom) (fun q nq m => ⟨m, nq⟩) (fun q z => z) (fun q _ => rfl)
  · have nj : i ≠ j := fun hj => by
      subst hj
      rw [List.getElem?_set_self hi] at ej
      cases ej; cases ot
    have nk : i ≠ k := fun hj => by
      subst hj
      rw [List.getElem?_set_self hi] at ek
      cases ek; cases ou
    rw [List.getElem?_set_ne nj] at ej
    rw [List.getElem?_set_ne nk] at ek
    exact I.sep j k t u q hjk ej ek ot ou pj pk
theorem st_keep [Py α] (i : Nat) {xs : List α} {m : W (Res S β L)} (k : StT Γ ts (δ.set i (.fx (List α) xs)) m Δ ΔL) (h : δ[i]? = some (.mu α xs) := by rfl) : StT Γ ts δ m Δ ΔL := fun σ A H D I q => by
  obtain ⟨A', mv, I'⟩ := I.keep h
  exact k σ A' H D I' (m.mono (fun r w => w.mv mv) (fun _ h => h) q)
/-- an object of our own is changed -/
theorem Iv.chg {i : Nat} {s s' : Sl} {p : Addr} {u : HO} (I : Iv Γ A H σ δ) (h : δ[i]? = some s) (hs : s.own = true) (hs' : ∀ G H0 A H o, OwnAt G H0 A H o s' → SlR G Γ.A0 H0 A H o s') (e : σ[i]? = some (some (.ref p))) (k : OwR Γ.G A H p u s') :
    Mv A H A (upd H p u) ∧ Iv Γ A (upd H p u) σ (δ.set i s') := by
  obtain ⟨p', o', e', m, b, n, hh, _⟩ := I.own h hs
  rw [e] at e'; cases e'
  have hi : i < δ.length := (List.getElem?_eq_some_iff.mp h).1
  have mv : Mv A H A (upd H p u) := Mv.chg I.dom m b
  refine ⟨mv, by simp [I.len], fun j t ej => ?_, fun j k t u' q hjk ej ek ot ou pj pk => ?_, I.d0, I.st.chg n m b, I.er⟩
  · by_cases hj : i = j
    · subst hj
      rw [List.getElem?_set_self hi] at ej
      cases ej
      exact ⟨_, e, hs' _ _ _ _ _ ⟨p, u, rfl, m, b, n, upd_same, k.mv mv⟩⟩
    · rw [List.getElem?_set_ne hj] at ej
      exact I.other h hs e hj ej mv (fun q nq m => m) (fun q z => z) (fun q nq => upd_ne nq)
  · have own : ∀ (j : Nat) (t : Sl), (δ.set i s')[j]? = some t → t.own = true → ∃ t', δ[j]? = some t' ∧ t'.own = true := fun j t ej ot => by
      by_cases hj : i = j
      · subst hj; exact ⟨_, h, hs⟩
      · rw [List.getElem?_set_ne hj] at ej; exact ⟨t, ej, ot⟩
    obtain ⟨t', e1, o1⟩ := own j t ej ot
    obtain ⟨u', e2, o2⟩ := own k u' ek ou
    exact I.sep j k t' u' q hjk e1 e2 o1 o2 pj pk
theorem st_app [Py α] {i : Nat} {xs : List α} {m : W α} (ht : EvT Γ te δ m) (h : δ[i]? = some (.mu α xs) := by rfl) :
    StT (β := β) (L := L) Γ (tDrop (tBM Γ.G.K "list" rAppend (tVar i) (tCons te tNil))) δ (m >>= fun a => W.need (xs.length < sizeLine) >>= fun _ => pure (.nx a)) (fun a => δ.set i (.mu α (xs ++ [a]))) ΔL := fun σ A H D I q => by
  obtain ⟨o, e, p, ho, rfl, hm, b, n, hh, vs, rfl, k⟩ := I.at_ _ _ h
  refine ⟨_, e, .inl ⟨rfl, vs, .inl (.inl hh)⟩, ?_⟩
  refine ht σ A H _ I (m.mono (fun a q v A' H' s r => ?_) (fun _ h => h) q)
  have hh' := s.k p _ b hh
  refine ⟨p, vs, v, rfl, rfl, hh', by rw [k.len]; exact q.1, ?_⟩
  obtain ⟨mv, I'⟩ := (I.step s).chg (s' := .mu α (xs ++ [a])) (u := .lst (vs ++ [v])) h rfl (fun _ _ _ _ _ h => h) e ⟨_, rfl, (k.imp fun _ _ r => Pa.st r I.dom s).app (.cons r .nil)⟩
  exact q.2 σ _ _ ((I.stepMv s).trans mv) I'
def ixOf (n : Nat) (k : Int) : Option Nat := ixN n k
/-- xs[k] = e, a list of our own -/
theorem st_setitem [Py α] {i : Nat} {xs : List α} {m : W α} {mi : W Int} {ti : TE} (ht : EvT Γ te δ m) (hk : EvT Γ ti δ mi) (h : δ[i]? = some (.mu α xs) := by rfl) :
    StT (β := β) (L := L) Γ (tAsg te (gSub (tVar i) ti rSetL)) δ (m >>= fun a => mi >>= fun k => W.need (ixN xs.length k).isSome >>= fun _ => pure (.nx (xs.set ((ixN xs.length k).getD 0) a))) (fun ys => δ.set i (.mu α ys)) ΔL := fun σ A H D I q => by
  obtain ⟨o, e, p, ho, rfl, hm, b, n, hh, vs, rfl, k⟩ := I.at_ _ _ h
  refine ht σ A H _ I (m.mono (fun a q v A' H' s r => ?_) (fun _ h => h) q)
  refine ⟨_, e, ?_⟩
  refine hk σ A' H' _ (I.step s) (mi.mono (fun j q w A2 H2 s2 r2 => ?_) (fun _ h => h) q)
  obtain ⟨hj, q⟩ := q
  obtain ⟨j', ej⟩ := Option.isSome_iff_exists.mp hj
  have hh' := (s.trans s2).k p _ b hh
  refine ⟨p, vs, j, j', rfl, r2, hh', by rw [k.len]; exact ej, ?_⟩
  rw [ej] at q
  obtain ⟨mv, I'⟩ := ((I.step s).step s2).chg (s' := .mu α (xs.set j' a)) (u := .lst (vs.set j' v)) h rfl (fun _ _ _ _ _ h => h) e ⟨_, rfl, ((k.imp fun _ _ r => Pa.st r I.dom (s.trans s2))).set (Pa.st r s.d s2) j'⟩
  exact q σ _ _ ((I.stepMv (s.trans s2)).trans mv) I'
end

/-! ### what a loop walks -/
def sets (σ : L2.St) (l : List (Nat × V)) : L2.St := l.foldl (fun σ p => σ.set p.1 (some p.2)) σ
/-- J yields the items xs; g stores an item, bd tells the slots then; js the slots that are stored -/
structure ItOk {α : Type} (Γ : Cxt) (J : It) (g : TG) (xs : List α) (bd : α → List Sl → List Sl) (js : List Nat) (n : Nat) (A1 : Av) (H1 : Hp) : Prop where
  stop : ∀ A H, St Γ.A0 Γ.H0 A H → Mv A1 H1 A H → J.stop xs.length H
  turn : ∀ (i : Nat) (a : α), xs[i]? = some a → ∀ A H, St Γ.A0 Γ.H0 A H → Mv A1 H1 A H → J.go i H ∧ ∀ x H', J.yld i H x H' → ∀ σ δ, δ.length = n → Iv Γ A H σ δ → ∀ Q : L2.St → Hp → Prop,
    (∀ (l : List (Nat × V)) A' H'', l.map (·.1) = js → St A H A' H'' → Iv Γ A' H'' (sets σ l) (bd a δ) → Q (sets σ l) H'') → g x σ H' Q
def EvI {α : Type} (Γ : Cxt) (wi : TI) (g : TG) (δ : List Sl) (m : W (List α)) (bd : α → List Sl → List Sl) (js : List Nat) : Prop := ∀ σ A H (R : It → Hp → Prop), Iv Γ A H σ δ →
  m.run (fun xs => ∀ J A' H', St A H A' H' → ItOk Γ J g xs bd js δ.length A' H' → R J H') Γ.Er → wi σ H R

def forW {α S β L : Type} (f : α → S → W (Res S β S)) : List α → S → W (Res S β L)
  | [], s => pure (.nx s)
  | x :: xs, s => f x s >>= fun r => match r with
    | .nx s' => forW f xs s'
    | .ct s' => forW f xs s'
    | .bk s' => pure (.nx s')
    | .rt b => pure (.rt b)
section
variable {Γ : Cxt} {A A' : Av} {H H' : Hp} {σ : L2.St} {δ δ' : List Sl} {S S1 β L α : Type} [Pa β] {Δ : S → List Sl} {ΔL : L → List Sl} {D : Ends} {ts t u : TS} {te : TE}
theorem st_for {wi : TI} {g : TG} {m : W (List α)} {bd : α → List Sl → List Sl} {js : List Nat} {f : α → S → W (Res S β S)} (s0 : S) (hi : EvI Γ wi g δ m bd js) (h0 : Le δ (Δ s0)) (hl : ∀ s, (Δ s).length = δ.length)
    (hb : ∀ a s, StT Γ ts (bd a (Δ s)) (f a s) Δ Δ) : StT (L := L) Γ (tFor wi g ts) δ (m >>= fun xs => forW f xs s0) Δ ΔL := fun σ A H D I q => by
  refine hi σ A H _ I (m.mono (fun xs q J A1 H1 s1 ok => ?_) (fun _ h => h) q)
  refine ⟨fun i k σ H => k + i = xs.length ∧ ∃ A s, Mv A1 H1 A H ∧ Iv Γ A H σ (Δ s) ∧ (forW (L := L) f (xs.drop i) s).run (Wish Γ A H D Δ ΔL) Γ.Er, ⟨xs.length, rfl, A1, s0, Mv.refl s1.d, (I.step s1).le h0, (forW f xs s0).mono (fun r w => w.mv (I.stepMv s1)) (fun _ h => h) q⟩, ?_⟩
  rintro i k σ2 H2 ⟨hk, A2, s, mv, I2, q2⟩
  have st2 := I2.st
  by_cases hi : i < xs.length
  · obtain ⟨go, tn⟩ := ok.turn i xs[i] (List.getElem?_eq_getElem hi) A2 H2 st2 mv
    rw [List.drop_eq_getElem_cons hi] at q2
    refine .inr ⟨go, fun σ3 H3 => ∃ A s, Mv A1 H1 A H3 ∧ Iv Γ A H3 σ3 (Δ s) ∧ (forW (L := L) f (xs.drop (i + 1)) s).run (Wish Γ A H3 D Δ ΔL) Γ.Er, fun σ3 H3 ⟨A3, s3, m3, I3, q3⟩ => ⟨k - 1, by omega, by omega, A3, s3, m3, I3, q3⟩, fun x H' y => ?_⟩
    refine tn x H' y σ2 (Δ s) (hl s) I2 _ fun l A3 H3 _ s3 I3 => ?_
    have mv3 := mv.trans (I2.stepMv s3)
    refine hb xs[i] s _ A3 H3 _ I3 ((f xs[i] s).mono (fun r w => ?_) (fun _ h => h) q2)
    cases r with
    | nx s' => exact fun σ' A' H' m' I' => ⟨A', s', mv3.trans m', I', (forW f (xs.drop (i + 1)) s').mono (fun r w => w.mv ((I2.stepMv s3).trans m')) (fun _ h => h) w⟩
    | ct s' => exact fun σ' A' H' m' I' => ⟨A', s', mv3.trans m', I', (forW f (xs.drop (i + 1)) s').mono (fun r w => w.mv ((I2.stepMv s3).trans m')) (fun _ h => h) w⟩
    | bk s' => exact fun σ' A' H' m' I' => w σ' A' H' ((I2.stepMv s3).trans m') I'
    | rt b => exact w
  · have e : i = xs.length := by omega
    subst e
    rw [List.drop_length] at q2
    exact .inl ⟨ok.stop A2 H2 st2 mv, q2 σ2 A2 H2 (Mv.refl I2.dom) I2⟩
def whileW (c : S → W Bool) (b : S → W (Res S β S)) (s : S) : W (Res S β L) where
  run := fun P E => ∃ (I : S → Prop) (μ : S → Nat), I s ∧ ∀ s, I s → (c s).run (fun t => if t = true then (b s).run (fun r => match r with
    | .nx s' => I s' ∧ μ s' < μ s
    | .ct s' => I s' ∧ μ s' < μ s
    | .bk s' => P (.nx s')
    | .rt v => P (.rt v)) E else P (.nx s)) E
  mono := fun {P Q E F} h k ⟨I, μ, i0, st⟩ => ⟨I, μ, i0, fun s hs => (c s).mono (fun t q => by
    split at q
    · rename_i ht
      rw [if_pos ht]
      exact (b s).mono (fun r w => by cases r <;> first | exact w | exact h _ w) k q
    · rename_i ht
      rw [if_neg ht]
      exact h _ q) k (st s hs)⟩
theorem st_while {c : TT} {mc : S → W Bool} {mb : S → W (Res S β S)} (s0 : S) (h0 : Le δ (Δ s0)) (hc : ∀ s, EvB Γ c (Δ s) (mc s)) (hb : ∀ s, StT Γ ts (Δ s) (mb s) Δ Δ) : StT (L := L) Γ (tWhile c ts) δ (whileW mc mb s0) Δ ΔL := fun σ A H D I q => by
  obtain ⟨P, μ, p0, turn⟩ := q
  refine ⟨fun m σ' H' => ∃ A' s, m = μ s ∧ P s ∧ Mv A H A' H' ∧ Iv Γ A' H' σ' (Δ s), ⟨_, A, s0, rfl, p0, Mv.refl I.dom, I.le h0⟩, ?_⟩
  rintro m σ1 H1 ⟨A1, s, rfl, ps, mv, I1⟩
  refine hc s σ1 A1 H1 _ I1 ((mc s).mono (fun t q A2 H2 s2 => ?_) (fun _ h => h) (turn s ps))
  have mv2 := mv.trans (I1.stepMv s2)
  cases t with
  | true =>
    refine iteT ⟨fun σ' H' => ∃ A' s', μ s' < μ s ∧ P s' ∧ Mv A H A' H' ∧ Iv Γ A' H' σ' (Δ s'), fun σ' H' ⟨A', s', l, p', m', I'⟩ => ⟨_, l, A', s', rfl, p', m', I'⟩, ?_⟩
    refine hb s σ1 A2 H2 _ (I1.step s2) ((mb s).mono (fun r w => ?_) (fun _ h => h) (by simpa using q))
    cases r with
    | nx s' => exact fun σ' A' H' m' I' => ⟨A', s', w.2, w.1, mv2.trans m', I'⟩
    | ct s' => exact fun σ' A' H' m' I' => ⟨A', s', w.2, w.1, mv2.trans m', I'⟩
    | bk s' => exact fun σ' A' H' m' I' => w σ' A' H' (mv2.trans m') I'
    | rt b => exact w
  | false => exact iteF ((show Wish Γ A H D Δ ΔL (.nx s) by simpa using q) σ1 A2 H2 mv2 (I1.step s2))
end
end TW
set_option Elab.async false
set_option maxRecDepth 100000
set_option maxHeartbeats 4000000
set_option linter.all false
set_option autoImplicit false
/-! TW3: lists and tuples, what loops walk, comprehensions -/
namespace TW
open Pa (rep)
open PaL (repL)
open PySem L2

/-! ### displays -/
def EvAs {α : Type} [Py α] (Γ : Cxt) (ta : TA) (δ : List Sl) (m : W (List α)) : Prop := ∀ σ A H Q, Iv Γ A H σ δ →
  m.run (fun xs => ∀ vs A' H', St A H A' H' → All2 (rep Γ.G A' H') vs xs → Q vs H') Γ.Er → ta σ H Q
section
variable {Γ : Cxt} {A A' : Av} {H H' : Hp} {σ : L2.St} {δ δ' : List Sl} {α β γ τ : Type} {ta tb te : TE} {tl : TA}
theorem es_nil [Py α] : EvAs (α := α) Γ tNil δ (pure []) := fun σ A H Q I q => q [] A H (St.refl I.dom) .nil
theorem es_cons [Py α] {ma : W α} {ml : W (List α)} (ha : EvT Γ ta δ ma) (hl : EvAs Γ tl δ ml) : EvAs Γ (tCons ta tl) δ (ma >>= fun a => ml >>= fun r => pure (a :: r)) := fun σ A H Q I q => by
  refine ha σ A H _ I (ma.mono (fun a q x A1 H1 s1 r1 => ?_) (fun _ h => h) q)
  refine hl σ A1 H1 _ (I.step s1) (ml.mono (fun t q vs A2 H2 s2 r2 => ?_) (fun _ h => h) q)
  exact q (x :: vs) A2 H2 (s1.trans s2) (.cons (Pa.st r1 s1.d s2) r2)
/-- a new list object -/
theorem fresh_lst [Py α] {p : Addr} {vs : List V} {xs : List α} {Q : VK} {G : Gx} {A0 : Av} {H0 : Hp} (s : St A0 H0 A H) (k : All2 (rep G A H) vs xs) (n : H p = none)
    (q : ∀ p vs A' H', H0 p = none → A'.M p → ¬ A'.B p → St A0 H0 A' H' → H' p = some (.lst vs) → All2 (rep G A' H') vs xs → Q (.ref p) H') : Q (.ref p) (upd H p (.lst vs)) := by
  have t := s.d.newM (o := .lst vs) n
  have st : St A H (A.add p) (upd H p (.lst vs)) := St.newM s.d n
  exact q p vs (A.add p) _ (s.none n) (.inr rfl) (fun b => s.d.nm n (s.d.s p b)) (s.trans st) upd_same (k.imp fun _ _ r => Pa.st r s.d st)
theorem ef_lst [Py α] {m : W (List α)} (h : EvAs Γ tl δ m) : EvF Γ (tLst tl) δ (m >>= fun xs => W.need (xs.length ≤ sizeLine) >>= fun _ => pure xs) := fun σ A H Q I q => by
  refine h σ A H _ I (m.mono (fun xs q vs A1 H1 s k => ?_) (fun _ h => h) q)
  refine ⟨by rw [k.len]; exact q.1, fun p n => fresh_lst s k n q.2⟩
theorem tup_new [Py α] {p : Addr} {vs : List V} {xs : List α} {G : Gx} (d : Dom A H) (k : All2 (rep G A H) vs xs) (n : H p = none) : rep G A (upd H p (.tup vs)) (.ref p) (⟨xs⟩ : Tup α) :=
  ⟨p, vs, rfl, .inl ⟨d.nm n, upd_same⟩, k.imp fun _ _ r => Pa.st r d (St.new d n)⟩
theorem ev_tupN [Py α] {m : W (List α)} (h : EvAs Γ tl δ m) : EvT (α := Tup α) Γ (tTup tl) δ (m >>= fun xs => W.need (xs.length ≤ sizeLine) >>= fun _ => pure ⟨xs⟩) := fun σ A H Q I q => by
  refine h σ A H _ I (m.mono (fun xs q vs A1 H1 s k => ?_) (fun _ h => h) q)
  refine ⟨by rw [k.len]; exact q.1, fun p n => q.2 _ A1 _ (s.trans (St.new s.d n)) (tup_new s.d k n)⟩
theorem ev_t2 [Py α] [Py β] {m : W α} {n : W β} (h : EvT Γ ta δ m) (k : EvT Γ tb δ n) : EvT Γ (tTup (tCons ta (tCons tb tNil))) δ (m >>= fun a => n >>= fun b => pure (T2.mk a b)) := fun σ A H Q I q => by
  refine h σ A H _ I (m.mono (fun a q x A1 H1 s1 r1 => ?_) (fun _ h => h) q)
  refine k σ A1 H1 _ (I.step s1) (n.mono (fun b q y A2 H2 s2 r2 => ?_) (fun _ h => h) q)
  refine ⟨by show 2 ≤ sizeLine; decide, fun p n => ?_⟩
  have s3 : St A2 H2 A2 (upd H2 p (.tup [x, y])) := St.new s2.d n
  exact q _ A2 _ ((s1.trans s2).trans s3) ⟨p, x, y, rfl, .inl ⟨s2.d.nm n, upd_same⟩, Pa.st (Pa.st r1 s1.d s2) s2.d s3, Pa.st r2 s2.d s3⟩
theorem ev_t3 [Py α] [Py β] [Py γ] {tc : TE} {m : W α} {n : W β} {o : W γ} (h : EvT Γ ta δ m) (k : EvT Γ tb δ n) (l : EvT Γ tc δ o) : EvT Γ (tTup (tCons ta (tCons tb (tCons tc tNil)))) δ (m >>= fun a => n >>= fun b => o >>= fun c => pure (T3.mk a b c)) := fun σ A H Q I q => by
  refine h σ A H _ I (m.mono (fun a q x A1 H1 s1 r1 => ?_) (fun _ h => h) q)
  refine k σ A1 H1 _ (I.step s1) (n.mono (fun b q y A2 H2 s2 r2 => ?_) (fun _ h => h) q)
  refine l σ A2 H2 _ (I.step (s1.trans s2)) (o.mono (fun c q z A3 H3 s3 r3 => ?_) (fun _ h => h) q)
  refine ⟨by show 3 ≤ sizeLine; decide, fun p n => ?_⟩
  have s4 : St A3 H3 A3 (upd H3 p (.tup [x, y, z])) := St.new s3.d n
  exact q _ A3 _ (((s1.trans s2).trans s3).trans s4) ⟨p, x, y, z, rfl, .inl ⟨s3.d.nm n, upd_same⟩, Pa.st (Pa.st (Pa.st r1 s1.d s2) s2.d s3) s3.d s4, Pa.st (Pa.st r2 s2.d s3) s3.d s4, Pa.st r3 s3.d s4⟩

/-! ### reading lists and tuples -/
theorem All2.at_ {R : V → α → Prop} {vs : List V} {xs : List α} (k : All2 R vs xs) {i : Int} {a : α} (h : atI xs i = some a) : ∃ v, atI vs i = some v ∧ R v a := by
  unfold atI at h ⊢
  rw [k.len]
  cases e : ixN xs.length i with
  | none => rw [e] at h; cases h
  | some j =>
    rw [e] at h
    obtain ⟨v, h1, h2⟩ := k.get j (by simpa using h)
    exact ⟨v, by simpa using h1, h2⟩
theorem ov_ixL [Py α] : OpV Γ (rIxL Γ.G.K) (fun (xs : Bor α) (i : Int) => W.get (atI xs.l i)) := fun x y A H Q xs i d hx hy q => by
  obtain ⟨p, vs, rfl, h, k⟩ := bor_sq hx
  obtain ⟨a, e, q⟩ := q
  obtain ⟨v, e1, r⟩ := k.at_ e
  exact ⟨p, vs, i, v, rfl, hy, h, e1, q v A H (St.refl d) r⟩
theorem ov_ixS : OpV Γ (rIxL Γ.G.K) (fun (xs : Scr) (i : Int) => W.get (atI xs.l i)) := fun x y A H Q xs i d hx hy q => by
  obtain ⟨p, rfl, h⟩ := hx
  obtain ⟨a, e, q⟩ := q
  obtain ⟨v, e1, r⟩ := All2.at_ (R := fun v (i : Int) => v = .int i) (vs := xs.l.map V.int) (xs := xs.l) (by
    generalize xs.l = l
    induction l with
    | nil => exact .nil
    | cons a l ih => exact .cons rfl ih) e
  exact ⟨p, _, i, v, rfl, hy, h.sq, e1, q v A H (St.refl d) r⟩
theorem ov_ixT [Py α] : OpV Γ (rIxT Γ.G.K) (fun (xs : Tup α) (i : Int) => W.get (atI xs.l i)) := fun x y A H Q xs i d hx hy q => by
  obtain ⟨p, vs, rfl, h, k⟩ := hx
  obtain ⟨a, e, q⟩ := q
  obtain ⟨v, e1, r⟩ := k.at_ e
  exact ⟨p, vs, i, v, rfl, hy, h.sq, e1, q v A H (St.refl d) r⟩
theorem ev_2a [Py α] [Py β] {m : W (T2 α β)} (h : EvT Γ te δ m) : EvT Γ (tOp (rIxT Γ.G.K) te (tC (.int 0))) δ (m >>= fun t => pure t.a) := fun σ A H Q I q =>
  h σ A H _ I (m.mono (fun t q v A1 H1 s1 ⟨p, x, y, e, h, r1, r2⟩ => ⟨p, _, 0, x, e, rfl, h.sq, rfl, q _ A1 H1 s1 r1⟩) (fun _ h => h) q)
theorem ev_2b [Py α] [Py β] {m : W (T2 α β)} (h : EvT Γ te δ m) : EvT Γ (tOp (rIxT Γ.G.K) te (tC (.int 1))) δ (m >>= fun t => pure t.b) := fun σ A H Q I q =>
  h σ A H _ I (m.mono (fun t q v A1 H1 s1 ⟨p, x, y, e, h, r1, r2⟩ => ⟨p, _, 1, y, e, rfl, h.sq, rfl, q _ A1 H1 s1 r2⟩) (fun _ h => h) q)
theorem ev_3a [Py α] [Py β] [Py γ] {m : W (T3 α β γ)} (h : EvT Γ te δ m) : EvT Γ (tOp (rIxT Γ.G.K) te (tC (.int 0))) δ (m >>= fun t => pure t.a) := fun σ A H Q I q =>
  h σ A H _ I (m.mono (fun t q v A1 H1 s1 ⟨p, x, y, z, e, h, r1, r2, r3⟩ => ⟨p, _, 0, x, e, rfl, h.sq, rfl, q _ A1 H1 s1 r1⟩) (fun _ h => h) q)
theorem ev_3b [Py α] [Py β] [Py γ] {m : W (T3 α β γ)} (h : EvT Γ te δ m) : EvT Γ (tOp (rIxT Γ.G.K) te (tC (.int 1))) δ (m >>= fun t => pure t.b) := fun σ A H Q I q =>
  h σ A H _ I (m.mono (fun t q v A1 H1 s1 ⟨p, x, y, z, e, h, r1, r2, r3⟩ => ⟨p, _, 1, y, e, rfl, h.sq, rfl, q _ A1 H1 s1 r2⟩) (fun _ h => h) q)
theorem ev_3c [Py α] [Py β] [Py γ] {m : W (T3 α β γ)} (h : EvT Γ te δ m) : EvT Γ (tOp (rIxT Γ.G.K) te (tC (.int 2))) δ (m >>= fun t => pure t.c) := fun σ A H Q I q =>
  h σ A H _ I (m.mono (fun t q v A1 H1 s1 ⟨p, x, y, z, e, h, r1, r2, r3⟩ => ⟨p, _, 2, z, e, rfl, h.sq, rfl, q _ A1 H1 s1 r3⟩) (fun _ h => h) q)
theorem cv1 [Pa α] {P : Prop} {G : Gx} {xs : List V} {t : Cn α Nl} (h : repL G A H xs t) (k : ∀ v, xs = [v] → rep G A H v t.a → P) : P := by
  obtain ⟨v, r, e, h1, h2⟩ := h
  rw [show r = [] from h2] at e
  exact k v e h1
theorem cv2 [Pa α] [Pa β] {P : Prop} {G : Gx} {xs : List V} {t : Cn α (Cn β Nl)} (h : repL G A H xs t) (k : ∀ v w, xs = [v, w] → rep G A H v t.a → rep G A H w t.r.a → P) : P := by
  obtain ⟨v, r, e, h1, w, r', e', h2, h3⟩ := h
  rw [show r' = [] from h3] at e'
  subst e'
  exact k v w e h1 h2
def rLenQ (K : PySem.W.Frag) : List V → Hp → VK → Prop := fun xs H Q => ∃ p ys, xs = [.ref p] ∧ (SqL K H p ys ∨ SqT K H p ys) ∧ Q (.int ys.length) H
theorem cv_lenL [Py α] : CaV Γ (rLenQ Γ.G.K) (fun (t : Cn (Bor α) Nl) => (pure (t.a.l.length : Int) : W Int)) := fun xs A H Q t d h q => cv1 h fun v e r => by
  obtain ⟨p, vs, rfl, h, k⟩ := bor_sq r
  exact ⟨p, vs, e, .inl h, q _ A H (St.refl d) (show V.int _ = V.int _ by rw [k.len])⟩
theorem cv_lenT [Py α] : CaV Γ (rLenQ Γ.G.K) (fun (t : Cn (Tup α) Nl) => (pure (t.a.l.length : Int) : W Int)) := fun xs A H Q t d h q => cv1 h fun v e r => by
  obtain ⟨p, vs, rfl, h, k⟩ := r
  exact ⟨p, vs, e, .inr h.sq, q _ A H (St.refl d) (show V.int _ = V.int _ by rw [k.len])⟩
theorem cv_lenS : CaV Γ (rLenQ Γ.G.K) (fun (t : Cn Scr Nl) => (pure (t.a.l.length : Int) : W Int)) := fun xs A H Q t d h q => cv1 h fun v e r => by
  obtain ⟨p, rfl, h⟩ := r
  exact ⟨p, _, e, .inl h.sq, q _ A H (St.refl d) (show V.int _ = V.int _ by rw [List.length_map])⟩
theorem ints_of {G : Gx} {vs : List V} {xs : List Int} (k : All2 (rep G A H) vs xs) : vs = xs.map V.int := k.map_eq V.int fun _ _ h => h
theorem bls_of {G : Gx} {vs : List V} {xs : List Bool} (k : All2 (rep G A H) vs xs) : vs = xs.map V.bl := k.map_eq V.bl fun _ _ h => h
theorem cv_sum : CaV Γ (rSum Γ.G.K) (fun (t : Cn (Bor Int) Nl) => (pure t.a.l.sum : W Int)) := fun xs A H Q t d h q => cv1 h fun v e r => by
  obtain ⟨p, vs, rfl, h, k⟩ := bor_sq r
  rw [ints_of k] at h
  exact ⟨p, t.a.l, e, h, q _ A H (St.refl d) rfl⟩
def minL : List Int → Int
  | [] => 0
  | x :: xs => xs.foldl min x
def maxL : List Int → Int
  | [] => 0
  | x :: xs => xs.foldl max x
theorem foldl_min (xs : List Int) : ∀ x : Int, xs.foldl min x ≤ x ∧ (∀ y ∈ xs, xs.foldl min x ≤ y) ∧ (xs.foldl min x = x ∨ xs.foldl min x ∈ xs) := by
  induction xs with
  | nil => intro x; exact ⟨Int.le_refl _, fun y h => (nomatch h), .inl rfl⟩
  | cons z xs ih =>
    intro x
    obtain ⟨h1, h2, h3⟩ := ih (min x z)
    rw [List.foldl_cons]
    refine ⟨by omega, fun y hy => ?_, ?_⟩
    · rcases List.mem_cons.mp hy with rfl | hy
      · omega
      · exact h2 y hy
    · rcases h3 with h3 | h3
      · by_cases hxz : x ≤ z
        · left; omega
        · right; rw [h3, show min x z = z by omega]; exact List.mem_cons_self
      · right; exact List.mem_cons_of_mem _ h3
theorem minL_le {xs : List Int} {y : Int} (h : y ∈ xs) : minL xs ≤ y := by
  cases xs with
  | nil => cases h
  | cons x xs =>
    obtain ⟨h1, h2, _⟩ := foldl_min xs x
    rcases List.mem_cons.mp h with rfl | h
    · exact h1
    · exact h2 y h
theorem minL_mem {xs : List Int} (h : xs ≠ []) : minL xs ∈ xs := by
  cases xs with
  | nil => exact absurd rfl h
  | cons x xs =>
    obtain ⟨_, _, h3⟩ := foldl_min xs x
    rcases h3 with h3 | h3
    · show xs.foldl min x ∈ _
      rw [h3]; exact List.mem_cons_self
    · exact List.mem_cons_of_mem _ h3
theorem foldl_max (xs : List Int) : ∀ x : Int, x ≤ xs.foldl max x ∧ (∀ y ∈ xs, y ≤ xs.foldl max x) ∧ (xs.foldl max x = x ∨ xs.foldl max x ∈ xs) := by
  induction xs with
  | nil => intro x; exact ⟨Int.le_refl _, fun y h => (nomatch h), .inl rfl⟩
  | cons z xs ih =>
    intro x
    obtain ⟨h1, h2, h3⟩ := ih (max x z)
    rw [List.foldl_cons]
    refine ⟨by omega, fun y hy => ?_, ?_⟩
    · rcases List.mem_cons.mp hy with rfl | hy
      · omega
      · exact h2 y hy
    · rcases h3 with h3 | h3
      · by_cases hxz : x ≤ z
        · right; rw [h3, show max x z = z by omega]; exact List.mem_cons_self
        · left; omega
      · right; exact List.mem_cons_of_mem _ h3
theorem le_maxL {xs : List Int} {y : Int} (h : y ∈ xs) : y ≤ maxL xs := by
  cases xs with
  | nil => cases h
  | cons x xs =>
    obtain ⟨h1, h2, _⟩ := foldl_max xs x
    rcases List.mem_cons.mp h with rfl | h
    · exact h1
    · exact h2 y h
theorem maxL_mem {xs : List Int} (h : xs ≠ []) : maxL xs ∈ xs := by
  cases xs with
  | nil => exact absurd rfl h
  | cons x xs =>
    obtain ⟨_, _, h3⟩ := foldl_max xs x
    rcases h3 with h3 | h3
    · show xs.foldl max x ∈ _
      rw [h3]; exact List.mem_cons_self
    · exact List.mem_cons_of_mem _ h3
theorem cv_min : CaV Γ (rMin Γ.G.K) (fun (t : Cn (Bor Int) Nl) => W.need (t.a.l ≠ []) >>= fun _ => (pure (minL t.a.l) : W Int)) := fun xs A H Q t d h q => cv1 h fun v e r => by
  obtain ⟨p, vs, rfl, h, k⟩ := bor_sq r
  rw [ints_of k] at h
  refine ⟨p, t.a.l, e, h, List.length_pos_iff.mpr q.1, fun m hm hl => ?_⟩
  have : m = minL t.a.l := Int.le_antisymm (hl _ (minL_mem q.1)) (minL_le hm)
  subst this
  exact q.2 _ A H (St.refl d) rfl
theorem cv_max : CaV Γ (rMax Γ.G.K) (fun (t : Cn (Bor Int) Nl) => W.need (t.a.l ≠ []) >>= fun _ => (pure (maxL t.a.l) : W Int)) := fun xs A H Q t d h q => cv1 h fun v e r => by
  obtain ⟨p, vs, rfl, h, k⟩ := bor_sq r
  rw [ints_of k] at h
  refine ⟨p, t.a.l, e, h, List.length_pos_iff.mpr q.1, fun m hm hl => ?_⟩
  have : m = maxL t.a.l := Int.le_antisymm (le_maxL hm) (hl _ (maxL_mem q.1))
  subst this
  exact q.2 _ A H (St.refl d) rfl
theorem cv_any : CaV Γ (rAny Γ.G.K) (fun (t : Cn (Bor Bool) Nl) => (pure (t.a.l.any id) : W Bool)) := fun xs A H Q t d h q => cv1 h fun v e r => by
  obtain ⟨p, vs, rfl, h, k⟩ := bor_sq r
  rw [bls_of k] at h
  exact ⟨p, t.a.l, e, h, q _ A H (St.refl d) rfl⟩
theorem cv_all : CaV Γ (rAll Γ.G.K) (fun (t : Cn (Bor Bool) Nl) => (pure (t.a.l.all id) : W Bool)) := fun xs A H Q t d h q => cv1 h fun v e r => by
  obtain ⟨p, vs, rfl, h, k⟩ := bor_sq r
  rw [bls_of k] at h
  exact ⟨p, t.a.l, e, h, q _ A H (St.refl d) rfl⟩
def rAbs : List V → Hp → VK → Prop := fun xs H Q => ∃ i, xs = [.int i] ∧ Q (.int (if i < 0 then -i else i)) H
theorem cv_abs : CaV Γ rAbs (fun (t : Cn Int Nl) => (pure (if t.a < 0 then -t.a else t.a) : W Int)) := fun xs A H Q t d h q => cv1 h fun v e r => ⟨t.a, by rw [e, show v = .int t.a from r], q _ A H (St.refl d) rfl⟩
def rInt1 : List V → Hp → VK → Prop := fun xs H Q => (∃ i, xs = [.int i] ∧ Q (.int i) H) ∨ ∃ k, xs = [.bl k] ∧ Q (.int (if k then 1 else 0)) H
theorem cv_int : CaV Γ rInt1 (fun (t : Cn Int Nl) => (pure t.a : W Int)) := fun xs A H Q t d h q => cv1 h fun v e r => .inl ⟨t.a, by rw [e, show v = .int t.a from r], q _ A H (St.refl d) rfl⟩
theorem cv_max2 : CaV Γ (fun xs H Q => ∃ i j, xs = [V.int i, V.int j] ∧ Q (.int (if j > i then j else i)) H) (fun (t : Cn Int (Cn Int Nl)) => (pure (max t.a t.r.a) : W Int)) := fun xs A H Q t d h q => cv2 h fun v w e r1 r2 =>
  ⟨t.a, t.r.a, by rw [e, show v = .int t.a from r1, show w = .int t.r.a from r2], q _ A H (St.refl d) (show V.int _ = V.int _ by congr 1; split <;> omega)⟩
theorem cv_min2 : CaV Γ (fun xs H Q => ∃ i j, xs = [V.int i, V.int j] ∧ Q (.int (if j < i then j else i)) H) (fun (t : Cn Int (Cn Int Nl)) => (pure (min t.a t.r.a) : W Int)) := fun xs A H Q t d h q => cv2 h fun v w e r1 r2 =>
  ⟨t.a, t.r.a, by rw [e, show v = .int t.a from r1, show w = .int t.r.a from r2], q _ A H (St.refl d) (show V.int _ = V.int _ by congr 1; split <;> omega)⟩
/-- tuple(xs) -/
def rTupOf (K : PySem.W.Frag) : List V → Hp → VK → Prop := fun xs H Q => ∃ p ys, xs = [.ref p] ∧ ((SqL K H p ys ∧ ∀ l, H l = none → Q (.ref l) (upd H l (.tup ys))) ∨ (SqT K H p ys ∧ Q (.ref p) H))
def rLstOf (K : PySem.W.Frag) : List V → Hp → VK → Prop := fun xs H Q => ∃ p ys, xs = [.ref p] ∧ (SqL K H p ys ∨ SqT K H p ys) ∧ ∀ l, H l = none → Q (.ref l) (upd H l (.lst ys))
theorem cv_tupL [Py α] : CaV Γ (rTupOf Γ.G.K) (fun (t : Cn (Bor α) Nl) => (pure ⟨t.a.l⟩ : W (Tup α))) := fun xs A H Q t d h q => cv1 h fun v e r => by
  obtain ⟨p, vs, rfl, h, k⟩ := bor_sq r
  exact ⟨p, vs, e, .inl ⟨h, fun l n => q _ A _ (St.new d n) (tup_new d k n)⟩⟩
theorem cv_tupT [Py α] : CaV Γ (rTupOf Γ.G.K) (fun (t : Cn (Tup α) Nl) => (pure t.a : W (Tup α))) := fun xs A H Q t d h q => cv1 h fun v e r => by
  obtain ⟨p, vs, e1, h, k⟩ := id r
  subst e1
  exact ⟨p, vs, e, .inr ⟨h.sq, q _ A H (St.refl d) r⟩⟩
theorem ef_listL [Py α] {m : W (Bor α)} (h : EvT Γ te δ m) : EvF Γ (tCB (rLstOf Γ.G.K) (tCons te tNil)) δ (m >>= fun b => pure b.l) := fun σ A H Q I q => by
  refine h σ A H _ I (m.mono (fun b q v A1 H1 s r => ?_) (fun _ h => h) q)
  obtain ⟨p, vs, rfl, h, k⟩ := bor_sq r
  exact ⟨p, vs, rfl, .inl h, fun l n => fresh_lst s k n q⟩
theorem ef_listT [Py α] {m : W (Tup α)} (h : EvT Γ te δ m) : EvF Γ (tCB (rLstOf Γ.G.K) (tCons te tNil)) δ (m >>= fun b => pure b.l) := fun σ A H Q I q => by
  refine h σ A H _ I (m.mono (fun b q v A1 H1 s r => ?_) (fun _ h => h) q)
  obtain ⟨p, vs, rfl, h, k⟩ := r
  exact ⟨p, vs, rfl, .inr h.sq, fun l n => fresh_lst s k n q⟩
theorem ef_cat [Py α] {m n : W (Bor α)} (h : EvT Γ ta δ m) (k : EvT Γ tb δ n) : EvF Γ (tOp rCat ta tb) δ (m >>= fun a => n >>= fun b => W.need (a.l.length + b.l.length ≤ sizeLine) >>= fun _ => pure (a.l ++ b.l)) := fun σ A H Q I q => by
  refine h σ A H _ I (m.mono (fun a q v A1 H1 s1 r1 => ?_) (fun _ h => h) q)
  refine k σ A1 H1 _ (I.step s1) (n.mono (fun b q w A2 H2 s2 r2 => ?_) (fun _ h => h) q)
  obtain ⟨p1, vs1, rfl, ⟨_, h1⟩, k1⟩ := Pa.st r1 s1.d s2
  obtain ⟨p2, vs2, rfl, ⟨_, h2⟩, k2⟩ := r2
  exact ⟨p1, p2, vs1, vs2, rfl, rfl, h1, h2, by rw [k1.len, k2.len]; exact q.1, fun p n => fresh_lst (s1.trans s2) (k1.app k2) n q.2⟩
theorem All2.flat {R : V → α → Prop} {vs : List V} {xs : List α} (k : All2 R vs xs) : ∀ n : Nat, All2 R (List.replicate n vs).flatten (List.replicate n xs).flatten
  | 0 => .nil
  | n + 1 => by rw [List.replicate_succ, List.replicate_succ, List.flatten_cons, List.flatten_cons]; exact k.app (k.flat n)
theorem ef_rep [Py α] {m : W (Bor α)} {n : W Int} (h : EvT Γ ta δ m) (k : EvT Γ tb δ n) : EvF Γ (tOp rRep ta tb) δ (m >>= fun a => n >>= fun i => W.need (-(2 ^ 63) ≤ i ∧ i < 2 ^ 63 ∧ a.l.length * i.toNat ≤ sizeLine) >>= fun _ => pure (List.replicate i.toNat a.l).flatten) := fun σ A H Q I q => by
  refine h σ A H _ I (m.mono (fun a q v A1 H1 s1 r1 => ?_) (fun _ h => h) q)
  refine k σ A1 H1 _ (I.step s1) (n.mono (fun b q w A2 H2 s2 r2 => ?_) (fun _ h => h) q)
  obtain ⟨p1, vs1, rfl, ⟨_, h1⟩, k1⟩ := Pa.st r1 s1.d s2
  exact ⟨p1, b, vs1, rfl, r2, h1, q.1.1, q.1.2.1, by rw [k1.len]; exact q.1.2.2, fun p n => fresh_lst (s1.trans s2) (k1.flat _) n q.2⟩
def cutL {α : Type} (xs : List α) (lo hi : Option Int) : List α := (xs.drop (HT.sIx xs.length 0 lo)).take (HT.sIx xs.length xs.length hi - HT.sIx xs.length 0 lo)
theorem All2.cut {R : V → α → Prop} {vs : List V} {xs : List α} (k : All2 R vs xs) (lo hi : Option Int) : All2 R (cutV vs lo hi) (cutL xs lo hi) := by
  unfold cutV cutL
  rw [k.len]
  exact (k.drop _).take _
/-- a part of a slice -/
def EvP (Γ : Cxt) (to : TO) (δ : List Sl) (m : W (Option Int)) : Prop := ∀ σ A H (Q : Option Int → Hp → Prop), Iv Γ A H σ δ → m.run (fun o => ∀ A' H', St A H A' H' → Q o H') Γ.Er → to σ H Q
theorem ep_none : EvP Γ tNoPart δ (pure none) := fun σ A H Q I q => q A H (St.refl I.dom)
theorem ep_some {m : W Int} (h : EvT Γ te δ m) : EvP Γ (tPart te) δ (m >>= fun i => pure (some i)) := fun σ A H Q I q =>
  h σ A H _ I (m.mono (fun i q v A1 H1 s1 r1 => ⟨i, r1, q A1 H1 s1⟩) (fun _ h => h) q)
theorem ef_slice [Py α] {tl th : TO} {m : W (Bor α)} {ml mh : W (Option Int)} (h : EvT Γ te δ m) (hl : EvP Γ tl δ ml) (hh : EvP Γ th δ mh) : EvF Γ (tSl (rSlL Γ.G.K) te tl th) δ (m >>= fun a => ml >>= fun l => mh >>= fun u => pure (cutL a.l l u)) := fun σ A H Q I q => by
  refine h σ A H _ I (m.mono (fun a q v A1 H1 s1 r1 => ?_) (fun _ h => h) q)
  refine hl σ A1 H1 _ (I.step s1) (ml.mono (fun l q A2 H2 s2 => ?_) (fun _ h => h) q)
  refine hh σ A2 H2 _ (I.step (s1.trans s2)) (mh.mono (fun u q A3 H3 s3 => ?_) (fun _ h => h) q)
  obtain ⟨p1, vs1, rfl, h1, k1⟩ := bor_sq (Pa.st (Pa.st r1 s1.d s2) s2.d s3)
  exact ⟨p1, vs1, rfl, h1, fun p n => fresh_lst ((s1.trans s2).trans s3) (k1.cut l u) n q⟩
theorem ef_sliceS {tl th : TO} {m : W Scr} {ml mh : W (Option Int)} (h : EvT Γ te δ m) (hl : EvP Γ tl δ ml) (hh : EvP Γ th δ mh) : EvF Γ (tSl (rSlL Γ.G.K) te tl th) δ (m >>= fun a => ml >>= fun l => mh >>= fun u => pure (cutL a.l l u)) := fun σ A H Q I q => by
  refine h σ A H _ I (m.mono (fun a q v A1 H1 s1 r1 => ?_) (fun _ h => h) q)
  refine hl σ A1 H1 _ (I.step s1) (ml.mono (fun l q A2 H2 s2 => ?_) (fun _ h => h) q)
  refine hh σ A2 H2 _ (I.step (s1.trans s2)) (mh.mono (fun u q A3 H3 s3 => ?_) (fun _ h => h) q)
  obtain ⟨p1, rfl, h1⟩ := Pa.st (Pa.st r1 s1.d s2) s2.d s3
  have k1 : All2 (rep Γ.G A3 H3) (a.l.map V.int) a.l := by
    generalize a.l = l
    induction l with
    | nil => exact .nil
    | cons a l ih => exact .cons rfl ih
  exact ⟨p1, _, rfl, h1.sq, fun p n => fresh_lst ((s1.trans s2).trans s3) (k1.cut l u) n q⟩

/-! ### what loops walk -/
def LaterL [Py α] (Γ : Cxt) (A1 : Av) (H1 : Hp) (p : Addr) (vs : List V) (xs : List α) : Prop := ∀ A H, St Γ.A0 Γ.H0 A H → Mv A1 H1 A H → SqL Γ.G.K H p vs ∧ All2 (rep Γ.G A H) vs xs
def LaterT [Py α] (Γ : Cxt) (A1 : Av) (H1 : Hp) (p : Addr) (vs : List V) (xs : List α) : Prop := ∀ A H, St Γ.A0 Γ.H0 A H → Mv A1 H1 A H → SqT Γ.G.K H p vs ∧ All2 (rep Γ.G A H) vs xs
def EvS [Py α] (Γ : Cxt) (te : TE) (δ : List Sl) (m : W (List α)) : Prop := ∀ σ A H Q, Iv Γ A H σ δ → m.run (fun xs => ∀ p vs A' H', St A H A' H' → LaterL Γ A' H' p vs xs → Q (.ref p) H') Γ.Er → te σ H Q
def EvST [Py α] (Γ : Cxt) (te : TE) (δ : List Sl) (m : W (List α)) : Prop := ∀ σ A H Q, Iv Γ A H σ δ → m.run (fun xs => ∀ p vs A' H', St A H A' H' → LaterT Γ A' H' p vs xs → Q (.ref p) H') Γ.Er → te σ H Q
theorem es_list [Py α] {m : W (List α)} (h : EvT Γ te δ m) : EvS Γ te δ m := fun σ A H Q I q => by
  refine h σ A H _ I (m.mono (fun xs q v A1 H1 s1 r1 => ?_) (fun _ h => h) q)
  obtain ⟨p, vs, rfl, h, k⟩ := r1
  exact q p vs A1 H1 s1 fun A2 H2 _ mv => ⟨(h.mv mv).sq, k.imp fun _ _ r => Py.mv r mv⟩
theorem es_bo [Py α] {i : Nat} {xs : List α} (h : δ[i]? = some (.bo α xs) := by rfl) : EvS Γ (tVar i) δ (pure xs) := fun σ A H Q I q => by
  obtain ⟨o, e, v, p, vs, rfl, rfl, ⟨n, r⟩, k⟩ := I.at_ _ _ h
  exact ⟨_, e, q p vs A H (St.refl I.dom) fun A2 H2 st mv => ⟨.inl (.inl (st.k p _ n r)), k.imp fun _ _ r => Py.mv r mv⟩⟩
theorem es_scr {m : W Scr} (h : EvT Γ te δ m) : EvS Γ te δ (m >>= fun s => pure s.l) := fun σ A H Q I q => by
  refine h σ A H _ I (m.mono (fun xs q v A1 H1 s1 r1 => ?_) (fun _ h => h) q)
  obtain ⟨p, rfl, h⟩ := r1
  refine q p _ A1 H1 s1 fun A2 H2 _ mv => ⟨(h.mv mv).sq, ?_⟩
  generalize xs.l = l
  induction l with
  | nil => exact .nil
  | cons a l ih => exact .cons rfl ih
theorem es_tup [Py α] {m : W (Tup α)} (h : EvT Γ te δ m) : EvST Γ te δ (m >>= fun t => pure t.l) := fun σ A H Q I q => by
  refine h σ A H _ I (m.mono (fun xs q v A1 H1 s1 r1 => ?_) (fun _ h => h) q)
  obtain ⟨p, vs, rfl, h, k⟩ := r1
  exact q p vs A1 H1 s1 fun A2 H2 _ mv => ⟨(h.mv mv).sq, k.imp fun _ _ r => Py.mv r mv⟩
/-- where an item goes -/
def EvG [Py α] (Γ : Cxt) (g : TG) (bd : α → List Sl → List Sl) (js : List Nat) (n : Nat) : Prop := (∀ a δ, δ.length = n → (bd a δ).length = n) ∧ ∀ x (a : α) A H σ δ, δ.length = n → Iv Γ A H σ δ → rep Γ.G A H x a → ∀ Q : L2.St → Hp → Prop,
  (∀ l : List (Nat × V), l.map (·.1) = js → Iv Γ A H (sets σ l) (bd a δ) → Q (sets σ l) H) → g x σ H Q
theorem eg_name [Py α] {j n : Nat} (h : j < n := by first | decide | simp) : EvG (α := α) Γ (gName j) (fun a δ => δ.set j (.fx α a)) [j] n :=
  ⟨fun a δ e => by rw [List.length_set, e], fun x a A H σ δ e I r Q q => q [(j, x)] rfl (I.fx r (by rw [e]; exact h))⟩
theorem sets_app (σ : L2.St) (l m : List (Nat × V)) : sets σ (l ++ m) = sets (sets σ l) m := List.foldl_append
theorem eg_2 [Py α] [Py β] {g1 g2 : TG} {b1 : α → List Sl → List Sl} {b2 : β → List Sl → List Sl} {j1 j2 : List Nat} {n : Nat} (h1 : EvG Γ g1 b1 j1 n) (h2 : EvG Γ g2 b2 j2 n) :
    EvG (α := T2 α β) Γ (gTup Γ.G.K 2 (gCons g1 (gCons g2 gNil))) (fun t δ => b2 t.b (b1 t.a δ)) (j1 ++ j2) n :=
  ⟨fun t δ e => h2.1 _ _ (h1.1 _ _ e), fun x t A H σ δ e I ⟨p, y, z, ex, h, r1, r2⟩ Q q => ⟨p, _, ex, h.sq, rfl, y, _, rfl, h1.2 y t.a A H σ δ e I r1 _ fun l1 e1 I1 => ⟨z, _, rfl, h2.2 z t.b A H _ _ (h1.1 _ _ e) I1 r2 _ fun l2 e2 I2 => ⟨rfl, by
    rw [← sets_app] at I2 ⊢
    exact q _ (by rw [List.map_append, e1, e2]) I2⟩⟩⟩⟩
theorem eg_3 [Py α] [Py β] [Py γ] {g1 g2 g3 : TG} {b1 : α → List Sl → List Sl} {b2 : β → List Sl → List Sl} {b3 : γ → List Sl → List Sl} {j1 j2 j3 : List Nat} {n : Nat} (h1 : EvG Γ g1 b1 j1 n) (h2 : EvG Γ g2 b2 j2 n) (h3 : EvG Γ g3 b3 j3 n) :
    EvG (α := T3 α β γ) Γ (gTup Γ.G.K 3 (gCons g1 (gCons g2 (gCons g3 gNil)))) (fun t δ => b3 t.c (b2 t.b (b1 t.a δ))) (j1 ++ j2 ++ j3) n :=
  ⟨fun t δ e => h3.1 _ _ (h2.1 _ _ (h1.1 _ _ e)), fun x t A H σ δ e I ⟨p, y, z, w, ex, h, r1, r2, r3⟩ Q q => ⟨p, _, ex, h.sq, rfl, y, _, rfl, h1.2 y t.a A H σ δ e I r1 _ fun l1 e1 I1 => ⟨z, _, rfl, h2.2 z t.b A H _ _ (h1.1 _ _ e) I1 r2 _ fun l2 e2 I2 =>
    ⟨w, _, rfl, h3.2 w t.c A H _ _ (h2.1 _ _ (h1.1 _ _ e)) I2 r3 _ fun l3 e3 I3 => ⟨rfl, by
    rw [← sets_app, ← sets_app] at I3 ⊢
    exact q _ (by rw [← List.append_assoc, List.map_append, List.map_append, e1, e2, e3]) (by rw [← List.append_assoc] at I3 ⊢; exact I3)⟩⟩⟩⟩⟩
theorem ei_list [Py α] {g : TG} {bd : α → List Sl → List Sl} {js : List Nat} {m : W (List α)} (h : EvS Γ te δ m) (hg : EvG Γ g bd js δ.length) : EvI Γ (iList Γ.G.K te) g δ m bd js := fun σ A H R I q => by
  refine h σ A H _ I (m.mono (fun xs q p vs A1 H1 s1 k => ?_) (fun _ h => h) q)
  have k1 := k A1 H1 (I.st.trans s1) (Mv.refl s1.d)
  refine ⟨p, rfl, ⟨vs, k1.1⟩, q _ A1 H1 s1 ⟨fun A2 H2 st mv => ?_, fun i a e A2 H2 st mv => ?_⟩⟩
  · obtain ⟨h1, h2⟩ := k A2 H2 st mv
    exact ⟨vs, h1, by rw [h2.len]; exact Nat.le_refl _⟩
  · obtain ⟨h1, h2⟩ := k A2 H2 st mv
    obtain ⟨v, e1, r⟩ := h2.get i e
    refine ⟨⟨vs, v, h1, e1⟩, fun x H' y σ2 δ2 hn I2 Q q => ?_⟩
    obtain ⟨rfl, y⟩ := y
    have := y vs h1
    rw [e1] at this; cases this
    exact hg.2 _ a A2 H' σ2 δ2 hn I2 r Q fun l el I3 => q l A2 H' el (St.refl I2.dom) I3
theorem ei_tup [Py α] {g : TG} {bd : α → List Sl → List Sl} {js : List Nat} {m : W (List α)} (h : EvST Γ te δ m) (hg : EvG Γ g bd js δ.length) : EvI Γ (iTup Γ.G.K te) g δ m bd js := fun σ A H R I q => by
  refine h σ A H _ I (m.mono (fun xs q p vs A1 H1 s1 k => ?_) (fun _ h => h) q)
  have k1 := k A1 H1 (I.st.trans s1) (Mv.refl s1.d)
  refine ⟨p, rfl, ⟨vs, k1.1⟩, q _ A1 H1 s1 ⟨fun A2 H2 st mv => ?_, fun i a e A2 H2 st mv => ?_⟩⟩
  · obtain ⟨h1, h2⟩ := k A2 H2 st mv
    exact ⟨vs, h1, by rw [h2.len]; exact Nat.le_refl _⟩
  · obtain ⟨h1, h2⟩ := k A2 H2 st mv
    obtain ⟨v, e1, r⟩ := h2.get i e
    refine ⟨⟨vs, v, h1, e1⟩, fun x H' y σ2 δ2 hn I2 Q q => ?_⟩
    obtain ⟨rfl, y⟩ := y
    have := y vs h1
    rw [e1] at this; cases this
    exact hg.2 _ a A2 H' σ2 δ2 hn I2 r Q fun l el I3 => q l A2 H' el (St.refl I2.dom) I3
def enumL {α : Type} (xs : List α) : List (T2 Int α) := xs.zipIdx.map fun p => ⟨(p.2 : Int), p.1⟩
theorem enumL_get {xs : List α} {i : Nat} {t : T2 Int α} (e : (enumL xs)[i]? = some t) : t.a = (i : Int) ∧ xs[i]? = some t.b := by
  unfold enumL at e
  rw [List.getElem?_map, List.getElem?_zipIdx] at e
  cases h : xs[i]? with
  | none => rw [h] at e; cases e
  | some a =>
    rw [h] at e
    simp at e
    subst e
    exact ⟨rfl, rfl⟩
theorem enumL_len (xs : List α) : (enumL xs).length = xs.length := by unfold enumL; simp
theorem ei_enum [Py α] {g : TG} {bd : T2 Int α → List Sl → List Sl} {js : List Nat} {m : W (List α)} (h : EvS Γ te δ m) (hg : EvG Γ g bd js δ.length) : EvI Γ (iEnum Γ.G.K (tCons te tNil)) g δ (m >>= fun xs => pure (enumL xs)) bd js := fun σ A H R I q => by
  refine h σ A H _ I (m.mono (fun xs q p vs A1 H1 s1 k => ?_) (fun _ h => h) q)
  have k1 := k A1 H1 (I.st.trans s1) (Mv.refl s1.d)
  refine ⟨p, vs, rfl, k1.1, q _ A1 H1 s1 ⟨fun A2 H2 st mv => ?_, fun i a e A2 H2 st mv => ?_⟩⟩
  · obtain ⟨h1, h2⟩ := k A2 H2 st mv
    exact ⟨vs, h1, by rw [h2.len, enumL_len]; exact Nat.le_refl _⟩
  · obtain ⟨h1, h2⟩ := k A2 H2 st mv
    obtain ⟨ea, eb⟩ := enumL_get e
    obtain ⟨v, e1, r⟩ := h2.get i eb
    refine ⟨⟨vs, v, h1, e1⟩, fun x H' y σ2 δ2 hn I2 Q q => ?_⟩
    obtain ⟨T, x', rfl, nT, rfl, y⟩ := y
    have := y vs h1
    rw [e1] at this; cases this
    have s3 : St A2 H2 A2 (upd H2 T (.tup [.int (i : Nat), v])) := St.new I2.dom nT
    exact hg.2 _ a A2 _ σ2 δ2 hn (I2.step s3) ⟨T, _, _, rfl, .inl ⟨I2.dom.nm nT, upd_same⟩, (show V.int _ = V.int _ by rw [ea]), Pa.st r I2.dom s3⟩ Q fun l el I3 => q l A2 _ el s3 I3
def zipL {α β : Type} (xs : List α) (ys : List β) : List (T2 α β) := (xs.zip ys).map fun p => ⟨p.1, p.2⟩
theorem zipL_get {xs : List α} {ys : List β} {i : Nat} {t : T2 α β} (e : (zipL xs ys)[i]? = some t) : xs[i]? = some t.a ∧ ys[i]? = some t.b := by
  unfold zipL at e
  rw [List.getElem?_map, Option.map_eq_some_iff] at e
  obtain ⟨p, h, rfl⟩ := e
  exact List.getElem?_zip_eq_some.mp h
theorem zipL_len (xs : List α) (ys : List β) : (zipL xs ys).length = min xs.length ys.length := by unfold zipL; simp
theorem min_or {a b : Nat} : a ≤ min a b ∨ b ≤ min a b := by omega
theorem ei_zip [Py α] [Py β] {g : TG} {bd : T2 α β → List Sl → List Sl} {js : List Nat} {m : W (List α)} {n : W (List β)} (h : EvS Γ ta δ m) (h' : EvS Γ tb δ n) (hg : EvG Γ g bd js δ.length) :
    EvI Γ (iZip Γ.G.K (tCons ta (tCons tb tNil))) g δ (m >>= fun xs => n >>= fun ys => pure (zipL xs ys)) bd js := fun σ A H R I q => by
  refine h σ A H _ I (m.mono (fun xs q p vs A1 H1 s1 k => ?_) (fun _ h => h) q)
  refine h' σ A1 H1 _ (I.step s1) (n.mono (fun ys q p' ws A2 H2 s2 k' => ?_) (fun _ h => h) q)
  have s12 := s1.trans s2
  have mv2 := s2.mv s1.d
  refine ⟨p, p', vs, ws, rfl, (k A2 H2 (I.st.trans s12) mv2).1, (k' A2 H2 (I.st.trans s12) (Mv.refl s2.d)).1, q _ A2 H2 s12 ⟨fun A3 H3 st mv => ?_, fun i a e A3 H3 st mv => ?_⟩⟩
  · obtain ⟨h1, h2⟩ := k A3 H3 st (mv2.trans mv)
    obtain ⟨h3, h4⟩ := k' A3 H3 st mv
    exact ⟨vs, ws, h1, h3, by rw [h2.len, h4.len, zipL_len]; exact min_or⟩
  · obtain ⟨h1, h2⟩ := k A3 H3 st (mv2.trans mv)
    obtain ⟨h3, h4⟩ := k' A3 H3 st mv
    obtain ⟨ea, eb⟩ := zipL_get e
    obtain ⟨v, e1, r1⟩ := h2.get i ea
    obtain ⟨w, e2, r2⟩ := h4.get i eb
    refine ⟨⟨vs, ws, v, w, h1, h3, e1, e2⟩, fun x H' y σ2 δ2 hn I2 Q q => ?_⟩
    obtain ⟨T, x', y', rfl, nT, rfl, y1, y2⟩ := y
    have := y1 vs h1
    rw [e1] at this; cases this
    have := y2 ws h3
    rw [e2] at this; cases this
    have s3 : St A3 H3 A3 (upd H3 T (.tup [v, w])) := St.new I2.dom nT
    exact hg.2 _ a A3 _ σ2 δ2 hn (I2.step s3) ⟨T, _, _, rfl, .inl ⟨I2.dom.nm nT, upd_same⟩, Pa.st r1 I2.dom s3, Pa.st r2 I2.dom s3⟩ Q fun l el I3 => q l A3 _ el s3 I3
theorem ei_zipT [Py α] [Py β] {g : TG} {bd : T2 α β → List Sl → List Sl} {js : List Nat} {m : W (List α)} {n : W (List β)} (h : EvST Γ ta δ m) (h' : EvST Γ tb δ n) (hg : EvG Γ g bd js δ.length) :
    EvI Γ (RZ.iZipA Γ.G.K (tCons ta (tCons tb tNil))) g δ (m >>= fun xs => n >>= fun ys => pure (zipL xs ys)) bd js := fun σ A H R I q => by
  refine h σ A H _ I (m.mono (fun xs q p vs A1 H1 s1 k => ?_) (fun _ h => h) q)
  refine h' σ A1 H1 _ (I.step s1) (n.mono (fun ys q p' ws A2 H2 s2 k' => ?_) (fun _ h => h) q)
  have s12 := s1.trans s2
  have mv2 := s2.mv s1.d
  refine ⟨p, p', vs, ws, rfl, .inr ⟨(k A2 H2 (I.st.trans s12) mv2).1, (k' A2 H2 (I.st.trans s12) (Mv.refl s2.d)).1, q _ A2 H2 s12 ⟨fun A3 H3 st mv => ?_, fun i a e A3 H3 st mv => ?_⟩⟩⟩
  · obtain ⟨h1, h2⟩ := k A3 H3 st (mv2.trans mv)
    obtain ⟨h3, h4⟩ := k' A3 H3 st mv
    exact ⟨vs, ws, h1, h3, by rw [h2.len, h4.len, zipL_len]; exact min_or⟩
  · obtain ⟨h1, h2⟩ := k A3 H3 st (mv2.trans mv)
    obtain ⟨h3, h4⟩ := k' A3 H3 st mv
    obtain ⟨ea, eb⟩ := zipL_get e
    obtain ⟨v, e1, r1⟩ := h2.get i ea
    obtain ⟨w, e2, r2⟩ := h4.get i eb
    refine ⟨⟨vs, ws, v, w, h1, h3, e1, e2⟩, fun x H' y σ2 δ2 hn I2 Q q => ?_⟩
    obtain ⟨T, x', y', rfl, nT, rfl, y1, y2⟩ := y
    have := y1 vs h1
    rw [e1] at this; cases this
    have := y2 ws h3
    rw [e2] at this; cases this
    have s3 : St A3 H3 A3 (upd H3 T (.tup [v, w])) := St.new I2.dom nT
    exact hg.2 _ a A3 _ σ2 δ2 hn (I2.step s3) ⟨T, _, _, rfl, .inl ⟨I2.dom.nm nT, upd_same⟩, Pa.st r1 I2.dom s3, Pa.st r2 I2.dom s3⟩ Q fun l el I3 => q l A3 _ el s3 I3
def rngL (lo : Int) (n : Nat) : List Int := (List.range n).map fun i : Nat => lo + (i : Int)
theorem rngL_get {lo : Int} {n i : Nat} {a : Int} (e : (rngL lo n)[i]? = some a) : i < n ∧ a = lo + i := by
  unfold rngL at e
  rw [List.getElem?_map, Option.map_eq_some_iff] at e
  obtain ⟨k, h, rfl⟩ := e
  obtain ⟨h1, h2⟩ := List.getElem?_eq_some_iff.mp h
  rw [List.getElem_range] at h2
  rw [List.length_range] at h1
  subst h2
  exact ⟨h1, rfl⟩
theorem rng_ok {g : TG} {bd : Int → List Sl → List Sl} {js : List Nat} {lo : Int} {k : Nat} {n : Nat} {A1 : Av} {H1 : Hp} (hg : EvG Γ g bd js n) : ItOk Γ (Itr lo k) g (rngL lo k) bd js n A1 H1 := by
  refine ⟨fun A H _ _ => ?_, fun i a e A H _ _ => ?_⟩
  · show k ≤ (rngL lo k).length
    unfold rngL; simp
  · obtain ⟨h1, rfl⟩ := rngL_get e
    refine ⟨h1, fun x H' y σ2 δ2 hn I2 Q q => ?_⟩
    obtain ⟨rfl, rfl⟩ := y
    exact hg.2 _ _ A _ σ2 δ2 hn I2 rfl Q fun l el I3 => q l A _ el (St.refl I2.dom) I3
theorem ei_range1 {g : TG} {bd : Int → List Sl → List Sl} {js : List Nat} {m : W Int} (h : EvT Γ te δ m) (hg : EvG Γ g bd js δ.length) : EvI Γ (iRng1 (tCons te tNil)) g δ (m >>= fun j => W.need (-(2 ^ 62) ≤ j ∧ j < 2 ^ 62) >>= fun _ => pure (rngL 0 j.toNat)) bd js := fun σ A H R I q =>
  h σ A H _ I (m.mono (fun j q v A1 H1 s1 r1 => ⟨j, by rw [show v = .int j from r1], q.1.1, q.1.2, q.2 _ A1 H1 s1 (rng_ok hg)⟩) (fun _ h => h) q)
theorem ei_range2 {g : TG} {bd : Int → List Sl → List Sl} {js : List Nat} {m n : W Int} (h : EvT Γ ta δ m) (h' : EvT Γ tb δ n) (hg : EvG Γ g bd js δ.length) :
    EvI Γ (iRng2 (tCons ta (tCons tb tNil))) g δ (m >>= fun i => n >>= fun j => W.need (-(2 ^ 62) ≤ i ∧ i < 2 ^ 62 ∧ -(2 ^ 62) ≤ j ∧ j < 2 ^ 62) >>= fun _ => pure (rngL i (j - i).toNat)) bd js := fun σ A H R I q => by
  refine h σ A H _ I (m.mono (fun i q v A1 H1 s1 r1 => ?_) (fun _ h => h) q)
  refine h' σ A1 H1 _ (I.step s1) (n.mono (fun j q w A2 H2 s2 r2 => ?_) (fun _ h => h) q)
  exact ⟨i, j, by rw [show v = .int i from r1, show w = .int j from r2], q.1, q.2 _ A2 H2 (s1.trans s2) (rng_ok hg)⟩

/-! ### comprehensions -/
def wipeS (δ : List Sl) : List Nat → List Sl
  | [] => δ
  | v :: vs => (wipeS δ vs).set v .un
theorem wipeS_len (δ : List Sl) : ∀ js, (wipeS δ js).length = δ.length
  | [] => rfl
  | v :: vs => by rw [wipeS, List.length_set, wipeS_len δ vs]
theorem Iv.wipe (I : Iv Γ A H σ δ) : ∀ js : List Nat, Iv Γ A H (wipe σ js) (wipeS δ js)
  | [] => I
  | v :: vs => by
    have J := I.wipe vs
    refine ⟨by rw [wipe_length, wipeS_len, I.len], fun j t e => ?_, fun j k t u q hjk ej ek ot ou pj pk => ?_, I.d0, I.st, I.er⟩
    · show ∃ o, ((L2.wipe σ vs).set v none)[j]? = some o ∧ _
      by_cases hj : v = j
      · subst hj
        by_cases hv : v < (wipeS δ vs).length
        · rw [wipeS, List.getElem?_set_self hv] at e
          cases e
          exact ⟨none, by rw [List.getElem?_set_self (by rw [J.len]; exact hv)], trivial⟩
        · rw [wipeS, List.getElem?_eq_none (by simpa using hv)] at e
          cases e
      · rw [wipeS, List.getElem?_set_ne hj] at e
        rw [List.getElem?_set_ne hj]
        exact J.at_ j t e
    · have nv : ∀ (j : Nat) (t : Sl), (wipeS δ (v :: vs))[j]? = some t → t.own = true → v ≠ j := fun j t e o hj => by
        subst hj
        by_cases hv : v < (wipeS δ vs).length
        · rw [wipeS, List.getElem?_set_self hv] at e
          cases e; cases o
        · rw [wipeS, List.getElem?_eq_none (by simpa using hv)] at e
          cases e
      have h1 := nv j t ej ot
      have h2 := nv k u ek ou
      rw [wipeS, List.getElem?_set_ne h1] at ej
      rw [wipeS, List.getElem?_set_ne h2] at ek
      rw [show L2.wipe σ (v :: vs) = (L2.wipe σ vs).set v none from rfl, List.getElem?_set_ne h1] at pj
      rw [show L2.wipe σ (v :: vs) = (L2.wipe σ vs).set v none from rfl, List.getElem?_set_ne h2] at pk
      exact J.sep j k t u q hjk ej ek ot ou pj pk
theorem wipe_get (σ : L2.St) : ∀ (js : List Nat) (i : Nat), (wipe σ js)[i]? = if i ∈ js then σ[i]?.map (fun _ => none) else σ[i]?
  | [], i => by simp [L2.wipe]
  | v :: vs, i => by
    rw [show L2.wipe σ (v :: vs) = (L2.wipe σ vs).set v none from rfl]
    by_cases h : v = i
    · subst h
      rw [if_pos List.mem_cons_self]
      by_cases hl : v < σ.length
      · rw [List.getElem?_set_self (by rw [wipe_length]; exact hl), List.getElem?_eq_getElem hl]
        rfl
      · rw [List.getElem?_eq_none (by rw [List.length_set, wipe_length]; omega), List.getElem?_eq_none (by omega)]
        rfl
    · rw [List.getElem?_set_ne h, wipe_get σ vs i]
      have : i ∈ v :: vs ↔ i ∈ vs := by simp [Ne.symm h]
      simp only [this]
theorem wipe_idem (σ : L2.St) (js : List Nat) (l : List (Nat × V)) (h : l.map (·.1) = js) : wipe (sets (wipe σ js) l) js = wipe σ js := by
  refine List.ext_getElem? fun i => ?_
  rw [wipe_get, wipe_get]
  have hs : ∀ (l : List (Nat × V)) (τ : L2.St), (sets τ l).length = τ.length ∧ (i ∉ l.map (·.1) → (sets τ l)[i]? = τ[i]?) := by
    intro l
    induction l with
    | nil => intro τ; exact ⟨rfl, fun _ => rfl⟩
    | cons p l ih =>
      intro τ
      obtain ⟨h1, h2⟩ := ih (τ.set p.1 (some p.2))
      refine ⟨by rw [show sets τ (p :: l) = sets (τ.set p.1 (some p.2)) l from rfl, h1, List.length_set], fun hn => ?_⟩
      rw [List.map_cons, List.mem_cons, not_or] at hn
      rw [show sets τ (p :: l) = sets (τ.set p.1 (some p.2)) l from rfl, h2 hn.2, List.getElem?_set_ne (Ne.symm hn.1)]
  obtain ⟨h1, h2⟩ := hs l (wipe σ js)
  by_cases hi : i ∈ js
  · rw [if_pos hi, if_pos hi]
    by_cases hl : i < σ.length
    · rw [List.getElem?_eq_getElem (by rw [h1, wipe_length]; exact hl), List.getElem?_eq_getElem hl]
      rfl
    · rw [List.getElem?_eq_none (by rw [h1, wipe_length]; omega), List.getElem?_eq_none (by omega)]
  · rw [if_neg hi, if_neg hi, h2 (by rw [h]; exact hi), wipe_get, if_neg hi]
def compW {α β : Type} (t : α → W Bool) (e : α → W β) : List α → W (List β)
  | [] => pure []
  | x :: xs => (t x).q >>= fun b => if b = true then (e x).q >>= fun y => compW t e xs >>= fun r => pure (y :: r) else compW t e xs
/-- nothing may be raised -/
def Cxt.q (Γ : Cxt) : Cxt := { Γ with E := fun _ _ _ => False, Er := fun _ => False }
theorem Iv.q (I : Iv Γ A H σ δ) : Iv Γ.q A H σ δ := ⟨I.len, I.at_, I.sep, I.d0, I.st, fun _ _ _ _ _ h _ _ => h.elim⟩
theorem eb_yes : EvB Γ tYes δ (pure true) := fun σ A H Q I q => q A H (St.refl I.dom)
theorem ef_comp [Py β] {wi : TI} {g : TG} {tt : TT} {m : W (List α)} {bd : α → List Sl → List Sl} {js : List Nat} {t : α → W Bool} {e : α → W β} (hi : EvI Γ wi g δ m bd js) (ht : ∀ a, EvB Γ.q tt (bd a (wipeS δ js)) (t a)) (he : ∀ a, EvT Γ.q te (bd a (wipeS δ js)) (e a)) :
    EvF Γ (tLc wi g tt te js) δ (m >>= fun xs => W.need (xs.length ≤ sizeLine) >>= fun _ => compW t e xs) := fun σ A H Q I q => by
  refine hi σ A H _ I (m.mono (fun xs q J A1 H1 s1 ok => ?_) (fun _ h => h) q)
  obtain ⟨hz, q⟩ := q
  intro D nD
  have s2 : St A1 H1 (A1.add D) (upd H1 D (.lst [])) := St.newM s1.d nD
  refine ⟨fun i k H => k + i = xs.length ∧ ∃ A vs acc, St A1 H1 A H ∧ A.M D ∧ ¬ A.B D ∧ H D = some (.lst vs) ∧ All2 (rep Γ.G A H) vs acc ∧ acc.length ≤ i ∧
      (compW t e (xs.drop i)).run (fun r => ∀ vs A' H', A'.M D → ¬ A'.B D → St A1 H1 A' H' → H' D = some (.lst vs) → All2 (rep Γ.G A' H') vs (acc ++ r) → Q (.ref D) H') Γ.Er,
    ⟨xs.length, rfl, A1.add D, [], [], s2, .inr rfl, fun b => s1.d.nm nD (s1.d.s D b), upd_same, .nil, Nat.le_refl _, ?_⟩, ?_⟩
  · refine (compW t e xs).mono (fun r q vs A' H' hm hb st h k => ?_) (fun _ h => h) q
    exact q D vs A' H' (s1.none nD) hm hb (s1.trans st) h k
  rintro i k H2 ⟨hk, A2, vs, acc, st2, hM, hB, hD, ka, hl, q2⟩
  have I2 : Iv Γ A2 H2 σ δ := (I.step s1).step st2
  by_cases hi : i < xs.length
  · obtain ⟨go, tn⟩ := ok.turn i xs[i] (List.getElem?_eq_getElem hi) A2 H2 I2.st (st2.mv s1.d)
    rw [List.drop_eq_getElem_cons hi] at q2
    refine .inr ⟨go, fun H3 => ∃ A vs acc, St A1 H1 A H3 ∧ A.M D ∧ ¬ A.B D ∧ H3 D = some (.lst vs) ∧ All2 (rep Γ.G A H3) vs acc ∧ acc.length ≤ i + 1 ∧
      (compW t e (xs.drop (i + 1))).run (fun r => ∀ vs A' H', A'.M D → ¬ A'.B D → St A1 H1 A' H' → H' D = some (.lst vs) → All2 (rep Γ.G A' H') vs (acc ++ r) → Q (.ref D) H') Γ.Er,
      fun H3 ⟨A3, vs3, acc3, a, b, c, d, e3, f, g3⟩ => ⟨k - 1, by omega, by omega, A3, vs3, acc3, a, b, c, d, e3, f, g3⟩, fun x H' y => ?_⟩
    refine tn x H' y _ (wipeS δ js) (wipeS_len δ js) (I2.wipe js) _ fun l A3 H3 el s3 I3 => ⟨wipe_idem σ js l el, ?_⟩
    refine ht xs[i] _ A3 H3 _ I3.q ((t xs[i]).mono (fun b q A4 H4 s4 => ?_) (fun _ h => h) q2)
    have s34 := s3.trans s4
    cases b with
    | false =>
      refine iteF ⟨A4, vs, acc, st2.trans s34, s34.ms D hM, fun z => (s34.nb D z).elim hB (fun y => by rw [y] at hD; cases hD), s34.k D _ hB hD, ka.imp fun _ _ r => Pa.st r st2.d s34, by omega, by simpa using q⟩
    | true =>
      refine iteT (he xs[i] _ A4 H4 _ (I3.q.step s4) ((e xs[i]).mono (fun y q v A5 H5 s5 r5 => ?_) (fun _ h => h) (by simpa [Cxt.q] using q)))
      have s35 := s34.trans s5
      have hD5 := s35.k D _ hB hD
      have hB5 : ¬ A5.B D := fun z => (s35.nb D z).elim hB fun y => by rw [y] at hD; cases hD
      have hM5 := s35.ms D hM
      have mv : Mv A5 H5 A5 (upd H5 D (.lst (vs ++ [v]))) := Mv.chg s5.d hM5 hB5
      refine ⟨vs, hD5, by rw [ka.len]; omega, A5, vs ++ [v], acc ++ [y], (st2.trans s35).chg nD hM5 hB5, hM5, hB5, upd_same, ((ka.imp fun _ _ r => Py.mv (Pa.st r st2.d s35) mv)).app (.cons (Py.mv r5 mv) .nil), by simp; omega, ?_⟩
      refine (compW t e (xs.drop (i + 1))).mono (fun r q => ?_) (fun _ h => h) q
      simpa using q
  · have ei : i = xs.length := by omega
    subst ei
    rw [List.drop_length] at q2
    refine .inl ⟨ok.stop A2 H2 I2.st (st2.mv s1.d), ?_⟩
    exact q2 vs A2 H2 hM hB st2 hD (by simpa using ka)
end
end TW
set_option Elab.async false
set_option maxRecDepth 100000
set_option maxHeartbeats 4000000
namespace My
open PySem PySem.Spec PyProof.Rows L2
/-! ### own error classes with one field -/
/-- __init__(self, f): self.f = f -/
def sp_efld (C : Addr) (f : Str) : Sp := fun vs H Q _ => ∃ (a : Addr) (y : V), vs = [.ref a, y] ∧ H a = some (exo a C none) ∧ ∀ dx, H dx = none → dx ≠ a → Q .non (upd (upd H dx (exd dx [(f, y)])) a (exo a C (some dx)))
structure ErrF (K : PySem.W.Frag) (mg : Str → Option Value) (x f : Str) (C fI : Addr) (fd : FuncData) : Prop where
  g : mg x = some (.ref C)
  oex : OexC K C
  iC : PySem.W.findIn K (.ref C) "__init__" = some (some (.ref fI))
  tI : PySem.W.typeIn K (.ref fI) = some (.type "function")
  b : Binds K fd ["self", f] []
  te : PySem.W.exmOne K (.ref C) (.ref C) = some true
  xf : XfC K C
  no : PySem.W.findIn K (.ref C) f = some none
section
variable {X : Cx} {x f : Str} {p pos : Pos} {e : Expr} {te : TE}
theorem pe_wk (h : PE X e te) : PE X e (fun σ H Q => ∃ R : VK, te σ H R ∧ ∀ v H', R v H' → Q v H') := by
  refine ⟨fun pins s σ H Q I z => ?_⟩
  obtain ⟨R, z1, z2⟩ := z
  refine thn (h.run pins s σ H R I z1) fun u s' y => ?_
  obtain ⟨v, H', I', r, q⟩ := y
  exact ⟨v, H', I', r, z2 _ _ q⟩
theorem pmk_fld {C fI : Addr} {k : Nat} {fd : FuncData} {ps : List Str} (T : OexC X.K C) (iC : PySem.W.findIn X.K (.ref C) "__init__" = some (some (.ref fI))) (tI : PySem.W.typeIn X.K (.ref fI) = some (.type "function"))
    (F1 : FnOk X.prog X.w X.K X.mg X.base CX0 k fI fd ps (sp_efld C f)) (hr : Room (k + 1) X.A) (hb : Binds X.K fd ps []) (hg : Gl X x) (hm : X.mg x = some (.ref C)) (he : PE X e te) (hdb : (x == ("__debug__" : Str)) = false := by decide)
    (hst : starEach [e] X.env = (false, eval e X.env) :: starEach [] X.env := by rfl) :
    PMk X (.Call (.Name x p) [e] [] pos) (fun σ H Q => te σ H fun y H1 => ∀ d H', H1 d = none → Same H1 H' → H' d = some (.xd [(f, y)]) → Q (.ref C) (some d) H') := by
  intro pins s σ H Q I h
  refine pmk_oex (dvs := []) T iC tI F1 hr hb .nil (fun _ _ _ _ _ _ _ z => z.elim) hg hm (pa_cons (pe_wk he) pa_nil hst) hdb hst rfl pins s σ H Q I ?_
  refine ⟨_, h, fun y H1 z => ⟨by show (1 : Nat) ≤ 1000; decide, fun a ha => ⟨a, y, rfl, upd_same, fun dx hdx hda => ⟨rfl, dx, [(f, y)], upd_same, ?_, ?_, ?_⟩⟩⟩⟩
  · rw [upd_ne hda, upd_same]
  · rw [upd_ne hda] at hdx
    exact hdx
  · rw [upd_ne hda] at hdx
    refine z dx _ hdx (fun b o hb => ?_) upd_same
    have n1 : b ≠ dx := ne_of_none hb hdx
    have n2 : b ≠ a := ne_of_none hb ha
    rw [upd_ne n1, del_ne n2, upd_ne n2, upd_ne n1, upd_ne n2]
    exact hb
/-- what a callee raises, handed on -/
theorem pass_of {E : XK} (tk : Takes X (fun cls d _ H => E cls d H)) : Passes (L2.CX X.prog X.w) X E := fun _ _ _ _ e s' I c => tk e s' (XE.of_call I (fun _ _ _ h => h) c)
end
end My
set_option Elab.async false
set_option maxRecDepth 100000
set_option maxHeartbeats 4000000
namespace My
open PySem PySem.Spec PyProof.Rows L2
/-! ### raise C(), C an own error class whose __init__ does nothing -/
/-- such an __init__ -/
def sp_pass : Sp := fun vs H Q _ => ∃ a : Addr, vs = [.ref a] ∧ Q .non H
section
variable {X : Cx} {x : Str} {p pos : Pos}
theorem pmk_pass {C fI : Addr} {k : Nat} {fd : FuncData} (T : OexC X.K C) (iC : PySem.W.findIn X.K (.ref C) "__init__" = some (some (.ref fI))) (tI : PySem.W.typeIn X.K (.ref fI) = some (.type "function"))
    (F1 : FnOk X.prog X.w X.K X.mg X.base CX0 k fI fd ["self"] sp_pass) (hr : Room (k + 1) X.A) (hb : Binds X.K fd ["self"] []) (hg : Gl X x) (hm : X.mg x = some (.ref C)) (hdb : (x == ("__debug__" : Str)) = false := by decide) :
    PMk X (.Call (.Name x p) [] [] pos) (fun _ H Q => Q (.ref C) none H) := by
  intro pins s σ H Q I h
  obtain ⟨nm, q, N, bs, bm, sn, sub, ab, col, dd, k0, k1, k2, k3, k5, hC, hbm⟩ := T.cls
  refine wpAny_Call_Name_kw (ld_glob I hg hm ?_ hdb)
  refine PySem.W.callWith_K0 I.kIn T.kC ?_
  obtain ⟨hp, g, dr, tk, os⟩ := s
  have keep2 : ∀ b o, hp.get? b = some o → ((hp.push (PySem.W.kdv_tup [])).push (PySem.HandSPX.excO C hp.objs.size)).get? b = some o :=
    fun b o e => Heap.get?_push_of_some _ (Heap.get?_push_of_some _ e)
  have hget : ((hp.push (PySem.W.kdv_tup [])).push (PySem.HandSPX.excO C hp.objs.size)).get? (hp.objs.size + 1) = some (PySem.HandSPX.excO C hp.objs.size) := by heap_get
  have hn : H (hp.objs.size + 1) = none := I.hok.fresh (Nat.le_succ _)
  have I2 : Inv X pins σ H ⟨(hp.push (PySem.W.kdv_tup [])).push (PySem.HandSPX.excO C hp.objs.size), g, dr, tk, os⟩ := I.kept (t' := tk) keep2
  refine wpAny_call (PySem.HandSPX.call_own F.excBase_ValueError (fun Y => PySem.HandSPX.refsVE_contains Y bm hbm) (I.kIn _ _ hC) (PySem.W.looks_findIn I.kIn iC) (fun self => PySem.W.bind_fn I.kIn self tI) (Nat.zero_le _)
    (codeAny_mono (F1.run _ X.stack _ H ⟨[Value.ref (hp.objs.size + 1)], []⟩ [Value.ref (hp.objs.size + 1)] [V.ref (hp.objs.size + 1)] (fun v H2 => v = .non ∧ H2 = H) (fun _ _ _ => False)
      (hr.make C [] []) (I2.env0.make C [] []) (by have b1 := hb ⟨_, g, dr, tk, os⟩ [Value.ref (hp.objs.size + 1)] I2.kIn rfl; rwa [List.append_nil] at b1) (.cons rfl .nil) ⟨_, rfl, rfl, rfl⟩) fun r s' hq => ?_))
  cases r with
  | error er => exact hq.elim
  | ok fl =>
    cases fl with
    | next => exact False.elim hq
    | brk => exact False.elim hq
    | cont => exact False.elim hq
    | ret u =>
      obtain ⟨v, H2, os2, bare2, un, hok, rv, ev, eH⟩ := hq
      subst ev eH
      refine ⟨rv, ?_⟩
      obtain ⟨h2, g2, d2, t2, os'⟩ := s'
      have old : ∀ {b : Addr} {o : Obj}, hp.get? b = some o → b ≠ hp.objs.size + 1 := fun {b o} z => Nat.ne_of_lt (Nat.lt_succ_of_lt (Heap.lt_size z))
      obtain ⟨G, ga, gb⟩ := restrict h2 fun b => decide (b ≠ hp.objs.size + 1)
      have gk : ∀ b, b ≠ hp.objs.size + 1 → G.get? b = h2.get? b := fun b hb => ga b (decide_eq_true hb)
      have ge : G.get? (hp.objs.size + 1) = none := gb _ (by simp)
      have nfr : hp.objs.size + 1 ∉ frs X.stack := fun hm => by
        obtain ⟨_, o, ho, _⟩ := I.stack.mem hm
        exact absurd (Heap.lt_size ho) (Nat.not_lt.mpr (Nat.le_succ _))
      have he : h2.get? (hp.objs.size + 1) = some (PySem.HandSPX.excO C hp.objs.size) := un.keep _ _ hget hn nfr (by simp)
      have U : Un (frs X.stack) [] H2 H2 hp G := {
        keep := fun b o z n hf hx => (gk b (old z)).trans (un.keep b o (keep2 b o z) n hf hx)
        slot := fun b o z n hf hx => by
          obtain ⟨sl, e⟩ := un.slot b o (keep2 b o z) n hf hx
          exact ⟨sl, (gk b (old z)).trans e⟩
        free := fun b o z n hx => n
        there := fun b o z hx => by
          obtain ⟨o', e⟩ := un.there b o (keep2 b o z) hx
          exact ⟨o', (gk b (old z)).trans e⟩
        tups := fun b xs z => z
        frzs := fun b o v z => z
        tbls := fun b ps z => ⟨#[], by rw [z]; simp⟩ }
      have hok2 : HOk X.prog X.w H2 G := fun b o z => by
        have nb : ∀ {c : Addr} {o : HO}, H2 c = some o → c ≠ hp.objs.size + 1 := fun {c o} e i => by
          rw [i, hn] at e
          cases e
        exact (hok b o z).stay (fun c v hc y => by
          rcases hc with hc | hc
          · rw [gk c (by rw [hc]; exact nb z)]; exact y
          · rw [gk c (nb hc)]; exact y) (fun _ e => e) fun _ _ e => e
      have J : Inv X pins σ H2 ⟨G, g2, d2, t2, os'⟩ := I.call' (ch := []) os2 U hok2 bare2 fun b z => absurd z (by simp)
      refine ⟨_, _, _, ⟨G, g2, d2, t2, os'⟩, H2, .ref C, none, rfl, J, fun b o z => ?_, ge, he, ⟨rfl, rfl⟩, rfl, rfl, hn, rfl, bare2, raises_own T.exC T.tyC, h⟩
      by_cases hba : b = hp.objs.size + 1
      · have z' : G.get? b = some o := z
        rw [hba, ge] at z'
        cases z'
      · exact (gk b hba).symm.trans z
end
end My
set_option Elab.async false
set_option maxRecDepth 100000
set_option maxHeartbeats 4000000
namespace My
open PySem PySem.Spec PyProof.Rows L2 ClX
/-! ### own comparisons of instances with a dict; classes in slots; class methods with keywords -/
/-- the promise with E's exceptions left out -/
def rOwnD (K : PySem.W.Frag) (C : Addr) (sp : Sp) (E : XK) : R2 := fun x y H Q => ∃ a dx fs t, x = .ref a ∧ H a = some (.ins C dx fs) ∧ TyX K H y t ∧ PySem.W.notFirst K C t = true ∧ sp [x, y] H Q E
section
variable {X : Cx} {CX : CXT} {C g : Addr} {n : Nat} {sp : Sp} {E : XK}
theorem op_ownD {op : CmpOp} (hop : ∀ a b, compareOp op a b = richCompare op a b) (hs : PySem.W.findIn X.K (.ref C) (cmpInfo op).2.1 = some (some (.ref g))) (hf : PySem.W.isFn X.K (.ref g) = true) (F : FnR X.prog X.w X.K X.mg X.base CX n g sp)
    (hr : Room n X.A) (hx : Passes CX X E) : OpR X (compareOp op) (rOwnD X.K C sp E) := by
  intro pins s σ H x y v u Q I rx ry h
  obtain ⟨a, dx, fs, t, rfl, ha, ty, hn, q⟩ := h
  cases (show v = Value.ref a from rx)
  obtain ⟨mA, J, _⟩ := ins_get I.hok ha
  obtain ⟨od, J, _⟩ := J.look
  obtain ⟨P, kt, pt, _⟩ := kit_of I ry ty
  obtain ⟨m, hF⟩ := I.fr
  rw [hop]
  refine PySem.W.cmp_K (op := op) (tb := t) hr.units0 hF I.ok.mod.kin J (kt.ty _ _ I.kIn pt) hn hs hf ?_
  refine wpAny_mono (wpAny_call (run_fnR (us := [.ref a, u]) (vs := [.ref a, y]) F hr hx I (.cons rfl (.cons ry .nil)) q)) (fun w s' z => ?_) fun _ _ x => x
  obtain ⟨z', H', I', rz, qz⟩ := z
  exact SlX.cmpback rz ⟨z', H', I', rz, qz⟩
end
/-- x(..), x a slot that holds the class at C -/
def tMakeL (i : Nat) (C : Addr) (sp : Sp) (dvs : List V) (E : XK) (t : TA) : TE := fun σ H Q => σ[i]? = some (some (.ref C)) ∧ tMake C sp dvs E t σ H Q
/-- .. as tMake, where what is raised is wished for at the caller's slots -/
def tMakeS (C : Addr) (sp : Sp) (dvs : List V) (E : L2.St → XK) (t : TA) : TE := fun σ H Q => tMake C sp dvs (E σ) t σ H Q
def tCMethS (C : Addr) (sp : Sp) (E : L2.St → XK) (ta : TE) (t : TA) : TE := fun σ H Q => tCMeth C sp (E σ) ta t σ H Q
def tMethS (C : Addr) (m : Str) (sp : Sp) (E : L2.St → XK) (ta : TE) (t : TA) : TE := fun σ H Q => ta σ H fun x H1 => ∃ a dx fs, x = .ref a ∧ H1 a = some (.ins C dx fs) ∧ fs.lookup m = none ∧ t σ H1 fun vs H2 => sp (x :: vs) H2 Q (E σ)
/-- C.m(.., k = v) -/
def tCMethN (C : Addr) (n m : Nat) (sp : Sp) (gV : List V → List V → List V) (E : XK) (ta : TE) (t tk : TA) : TE := fun σ H Q => ta σ H fun x H1 => x = .ref C ∧ t σ H1 fun vs H2 => tk σ H2 fun zs H3 => vs.length = n ∧ zs.length = m ∧ sp (gV (.ref C :: vs) zs) H3 Q E
section
variable {X : Cx} {CX : CXT} {k i n : Nat} {f C p g : Addr} {fd : FuncData} {ps ks : List Str} {sp : Sp} {dvs : List V} {ds : List Value} {E : XK} {ES : L2.St → XK} {x m : Str} {pp pos apos : Pos} {e o : Expr} {es : List Expr} {kws : List Keyword} {t tk : TA} {ta : TE} {mc : Value} {pl : Sem Bool}
  {gg : List Value → List Value → List Value} {gV : List V → List V → List V}
theorem pe_makeL (M : Mk X.K C f) (F : FnOk X.prog X.w X.K X.mg X.base CX k f fd ps sp) (hr : Room (k + 1) X.A) (hN : X.N[i]? = some x) (hv : Vis X.env.scope x) (hb : Binds X.K fd ps ds) (hd : Vals dvs ds) (hx : Passes CX X E) (ha : PA X (e :: es) t)
    (hdb : (x == ("__debug__" : Str)) = false := by decide) (hcd : (x == ("__classdict__" : Str)) = false := by decide)
    (he : starEach (e :: es) X.env = (false, eval e X.env) :: starEach es X.env := by rfl) (hpl : (backTo pos (starEach es X.env)).any (·.1) = false := by rfl) : PE X (.Call (.Name x pp) (e :: es) [] pos) (tMakeL i C sp dvs E t) := by
  refine ⟨fun pins s σ H Q I h => ?_⟩
  obtain ⟨hs, ht⟩ := h
  refine wpAny_Call_Name_kw (thn ((pe_var (pos := pp) hN hv hdb hcd).run pins s σ H (fun v H1 => v = .ref C ∧ H1 = H) I ⟨.ref C, hs, rfl, rfl⟩) fun u s1 ⟨v, H1, I1, r1, q1⟩ => ?_)
  obtain ⟨rfl, rfl⟩ := q1
  cases r1
  refine PySem.W.callWith_K (h₀ := X.base) I.ok.mod.kin M.kp (thn (ha.run pos pins s1 σ _ _ I1 ht) fun us s2 ⟨vs, H2, I2, r, q⟩ => ⟨I2.kIn, ?_⟩) he hpl
  exact run_make M F hr hb hd hx I2 r q
theorem run_makeS {pins : List (Addr × Obj)} {σ : L2.St} {H : Hp} {s : Shared} {Q : VK} {us : List Value} {vs : List V} (M : Mk X.K C f) (F : FnOk X.prog X.w X.K X.mg X.base CX k f fd ps sp) (hr : Room (k + 1) X.A) (hb : Binds X.K fd ps ds) (hd : Vals dvs ds)
    (hx : PassesAt CX X σ E) (I : Inv X pins σ H s) (r : Vals vs us)
    (h : ∀ x dx, H x = none → H dx = none → dx ≠ x → sp (.ref x :: (vs ++ dvs)) (upd (upd H dx (.own x)) x (.ins C dx [])) (fun v H2 => v = .non ∧ Q (.ref x) H2) E) :
    wpAny (model X.prog X.w) X.A (call (.ref C) us) (EP X pins σ Q) X.xe s := by
  have hq := h (s.heap.objs.size + 1) s.heap.objs.size (I.hok.fresh (Nat.le_succ _)) (I.hok.fresh (Nat.le_refl _)) (Nat.ne_of_lt (Nat.lt_succ_self _))
  have I2 := Inv.made (C := C) I
  have r2 : Vals (V.ref (s.heap.objs.size + 1) :: (vs ++ dvs)) (Value.ref (s.heap.objs.size + 1) :: (us ++ ds)) := .cons rfl (r.append hd)
  have hl : (Value.ref (s.heap.objs.size + 1) :: us ++ ds).length = ps.length := by
    have e := r2.length
    rw [F.len _ _ _ _ hq] at e
    exact e.symm
  refine wpAny_call (make_map (f := f) I.kIn M.makes M.init (beq_iff_eq.mp M.fn) (codeAny_mono (F.run _ X.stack _ _ ⟨Value.ref (s.heap.objs.size + 1) :: us, []⟩ (Value.ref (s.heap.objs.size + 1) :: (us ++ ds)) _ _ E (hr.make C us [])
    (I2.env0.make C us []) (hb _ (Value.ref (s.heap.objs.size + 1) :: us) I2.kIn hl) r2 hq) fun r s' hq' => ?_))
  cases r with
  | error e => exact hx pins _ _ e s' I2 hq'
  | ok fl =>
    cases fl with
    | ret u =>
      obtain ⟨v, H', I3, rv, ev, q3⟩ := I2.after hq'
      subst ev
      exact ⟨rv, ⟨V.ref (s.heap.objs.size + 1), H', I3, rfl, q3⟩⟩
    | next => exact False.elim hq'
    | brk => exact False.elim hq'
    | cont => exact False.elim hq'
theorem pe_makeS (M : Mk X.K C f) (F : FnOk X.prog X.w X.K X.mg X.base CX k f fd ps sp) (hr : Room (k + 1) X.A) (hg : Gl X x) (hm : X.mg x = some (.ref C)) (hb : Binds X.K fd ps ds) (hd : Vals dvs ds) (hx : ∀ σ, PassesAt CX X σ (ES σ))
    (ha : PA X (e :: es) t) (hdb : (x == ("__debug__" : Str)) = false := by decide) (he : starEach (e :: es) X.env = (false, eval e X.env) :: starEach es X.env := by rfl) (hpl : (backTo pos (starEach es X.env)).any (·.1) = false := by rfl) :
    PE X (.Call (.Name x pp) (e :: es) [] pos) (tMakeS C sp dvs ES t) := by
  refine ⟨fun pins s σ H Q I h => ?_⟩
  refine wpAny_Call_Name_kw (ld_glob I hg hm ?_ hdb)
  refine PySem.W.callWith_K (h₀ := X.base) I.ok.mod.kin M.kp (thn (ha.run pos pins s σ H _ I h) fun us s1 ⟨vs, H1, I1, r, q⟩ => ⟨I1.kIn, ?_⟩) he hpl
  exact run_makeS M F hr hb hd (hx σ) I1 r q
theorem run_fnRS {pins : List (Addr × Obj)} {σ : L2.St} {H : Hp} {s : Shared} {Q : VK} {us : List Value} {vs : List V} (F : FnR X.prog X.w X.K X.mg X.base CX k f sp) (hr : Room k X.A) (hx : PassesAt CX X σ E) (I : Inv X pins σ H s) (r : Vals vs us) (h : sp vs H Q E) :
    codeAny (model X.prog X.w) X.A (.call (.ref f) ⟨us, []⟩) (fun r s' => match r with | .ok (.ret v) => EP X pins σ Q v s' | .ok _ => False | .error e => X.xe e s') s := by
  refine codeAny_mono (F X.A X.stack s H us vs Q E hr I.env0 r h) fun r s' hq => ?_
  cases r with
  | error e => exact hx pins H s e s' I hq
  | ok fl =>
    cases fl with
    | ret u => exact I.after hq
    | next => exact False.elim hq
    | brk => exact False.elim hq
    | cont => exact False.elim hq
theorem pe_cmethS (he : PE X o ta) (r : CRead X.K C mc) (c : CMet X.K C mc m p g) (F : FnR X.prog X.w X.K X.mg X.base CX k g sp) (hr : Room k X.A) (hx : ∀ σ, PassesAt CX X σ (ES σ)) (ha : PA X (e :: es) t)
    (hst : starEach (e :: es) X.env = (false, eval e X.env) :: starEach es X.env := by rfl) (hpl : (backTo pos (starEach es X.env)).any (·.1) = false := by rfl)
    (ht : eval (.Call (.Attribute o m apos) (e :: es) [] pos) X.env = (do
      let ov ← eval o X.env
      standAt apos.atName
      let (f, first) ← holding [ov] (getMethod ov m pl)
      callWith pos f first (backTo pos (starEach (e :: es) X.env)) (backToKw pos (keywordEach [] X.env))) := by rfl) :
    PE X (.Call (.Attribute o m apos) (e :: es) [] pos) (tCMethS C sp ES ta t) := by
  refine ⟨fun pins s σ H Q I h => ?_⟩
  refine PySem.W.methodCall_KW (pl := pl) (thn (he.run pins s σ H _ I h) fun u s1 ⟨x, H1, I1, rx, ex, q⟩ => ?_) ht
  subst ex
  obtain rfl : u = Value.ref C := rx
  refine getmethcm_ok I1 r c fun s2 I2 => ?_
  refine callwith_cm I2 (base_none I1 (Nat.le_refl _)) c.fi (thn (ha.run pos _ s2 σ H1 _ I2 q) fun us s3 ⟨vs, H2, I3, rv, q2⟩ => ⟨⟨pin_at I3, I3.kIn⟩, ?_⟩) hst hpl
  have z : wpAny (model X.prog X.w) X.A (call (.ref s1.heap.objs.size) us) (EP X _ σ Q) X.xe s3 := wpAny_call (PySem.W.method_call (pin_at I3) (run_fnRS (us := .ref C :: us) (vs := .ref C :: vs) F hr (hx σ) I3 (.cons rfl rv) q2))
  exact thn z fun _ _ y => unpinE y
theorem pe_cmethN (he : PE X o ta) (r : CRead X.K C mc) (c : CMet X.K C mc m p g) (F : FnOk X.prog X.w X.K X.mg X.base CX k g fd ps sp) (hr : Room k X.A) (hb : KBn X.K fd ps (n + 1) ks gg gV) (hx : Passes CX X E) (ha : PA X (e :: es) t) (hkw : PK X kws tk)
    (hall : (backToKw pos (keywordEach kws X.env)).all (·.1.isSome) = true := by rfl) (hks : (backToKw pos (keywordEach kws X.env)).filterMap (·.1) = ks := by rfl)
    (hst : starEach (e :: es) X.env = (false, eval e X.env) :: starEach es X.env := by rfl)
    (hpl : ((backTo pos (starEach (e :: es) X.env)).any (·.1) || (backToKw pos (keywordEach kws X.env)).any (·.1.isNone)) = false := by rfl)
    (ht : eval (.Call (.Attribute o m apos) (e :: es) kws pos) X.env = (do
      let ov ← eval o X.env
      standAt apos.atName
      let (f, first) ← holding [ov] (getMethod ov m pl)
      callWith pos f first (backTo pos (starEach (e :: es) X.env)) (backToKw pos (keywordEach kws X.env))) := by rfl) :
    PE X (.Call (.Attribute o m apos) (e :: es) kws pos) (tCMethN C n ks.length sp gV E ta t tk) := by
  refine ⟨fun pins s σ H Q I h => ?_⟩
  refine PySem.W.methodCall_KW (pl := pl) (thn (he.run pins s σ H _ I h) fun u s1 ⟨x, H1, I1, rx, ex, q⟩ => ?_) ht
  subst ex
  obtain rfl : u = Value.ref C := rx
  refine getmethcm_ok I1 r c fun s2 I2 => ?_
  refine PySem.W.callWith_of hpl (PySem.W.keeps_M (K := X.K) (self := .ref C) c.fi) ?_
  refine evalArgs_kw2 hall ?_ hst
  refine thn (ha.run pos _ s2 σ H1 _ I2 q) fun us s3 ⟨vs, H2, I3, rv, q2⟩ => ?_
  refine thn (hkw.run pos _ s3 σ H2 _ I3 q2) fun ws s4 ⟨zs, H3, I4, rz, l1, l2, q3⟩ => ⟨⟨pin_at I4, I4.kIn⟩, ?_⟩
  rw [hks]
  have r2 := hb.rel (vs := .ref C :: vs) (us := .ref C :: us) (.cons rfl rv) rz
  have e1 : (Value.ref C :: us).length = n + 1 := by rw [List.length_cons, ← rv.length, l1]
  have e2 : ws.length = ks.length := rz.length.symm.trans l2
  have z : wpAny (model X.prog X.w) X.A (call (.ref s1.heap.objs.size) us (ks.zip ws)) (EP X _ σ Q) X.xe s4 := wpAny_call (PySem.W.method_call (kw := ks.zip ws) (pin_at I4)
    (codeAny_mono (F.run X.A X.stack s4 H3 ⟨.ref C :: us, ks.zip ws⟩ (gg (.ref C :: us) ws) (gV (.ref C :: vs) zs) Q E hr I4.env0 (hb.to s4 (.ref C :: us) ws I4.kIn e1 e2) r2 q3) fun r s' hq => by
      cases r with
      | error e => exact hx _ σ H3 s4 e s' I4 hq
      | ok fl =>
        cases fl with
        | ret u => exact I4.after hq
        | next => exact False.elim hq
        | brk => exact False.elim hq
        | cont => exact False.elim hq))
  exact thn z fun _ _ y => unpinE y
/-- o.m(..), where what is raised is wished for at the caller's slots -/
theorem pe_methS (he : PE X o ta) (c : Cls X.K C) (hm : Meth X.K C m f) (F : FnOk X.prog X.w X.K X.mg X.base CX k f fd ps sp) (hr : Room k X.A) (hb : Binds X.K fd ps []) (hx : ∀ σ, PassesAt CX X σ (ES σ)) (ha : PA X (e :: es) t)
    (hst : starEach (e :: es) X.env = (false, eval e X.env) :: starEach es X.env := by rfl) (hpl : (backTo pos (starEach es X.env)).any (·.1) = false := by rfl)
    (ht : eval (.Call (.Attribute o m apos) (e :: es) [] pos) X.env = (do
      let ov ← eval o X.env
      standAt apos.atName
      let (f, first) ← holding [ov] (getMethod ov m pl)
      callWith pos f first (backTo pos (starEach (e :: es) X.env)) (backToKw pos (keywordEach [] X.env))) := by rfl) :
    PE X (.Call (.Attribute o m apos) (e :: es) [] pos) (tMethS C m sp ES ta t) := by
  refine ⟨fun pins s σ H Q I h => ?_⟩
  refine PySem.W.methodCall_KW (pl := pl) (thn (he.run pins s σ H _ I h) fun u s1 ⟨x, H1, I1, rx, a, dx, fs, ex, ea, l, q⟩ => ?_) ht
  subst ex
  obtain rfl : u = Value.ref a := rx
  refine getmeth_ok I1 ea c hm l ?_
  refine PySem.W.callWith_K (first := [.ref a]) (h₀ := X.base) I.ok.mod.kin hm.kp (thn (ha.run pos pins s1 σ H1 _ I1 q) fun us s2 ⟨vs, H2, I2, r, q2⟩ => ⟨I2.kIn, ?_⟩) hst hpl
  exact run_fnS (us := .ref a :: us) (vs := .ref a :: vs) F hr hb (hx σ) I2 (.cons rfl r) q2
end
end My
set_option Elab.async false
set_option maxRecDepth 100000
set_option maxHeartbeats 4000000
set_option linter.all false
set_option autoImplicit false
/-! TW4: defs, calls, exceptions, objects -/
namespace TW
open Pa (rep)
open PaL (repL)
open PySem PySem.Spec PyProof.Rows L2 My

/-! ### defs -/
/-- arguments as slots -/
class Ar (α : Type) extends Pa α where
  sl : α → Sl
  ok : ∀ {G A H v a}, rep G A H v a → SlR G A H A H (some v) (sl a)
  no : ∀ a, (sl a).own = false
instance {α : Type} [Py α] : Ar α := { toPa := inferInstance, sl := fun a => .fx α a, ok := fun h => ⟨_, rfl, h⟩, no := fun _ => rfl }
instance {α : Type} [Py α] : Ar (Bor α) := { toPa := inferInstance, sl := fun a => .bo α a.l, ok := fun ⟨p, vs, e, h, k⟩ => ⟨_, p, vs, rfl, e, h, k⟩, no := fun _ => rfl }
class ArL (τ : Type) [PaL τ] where
  sls : τ → List Sl
  len : ∀ t, (sls t).length = PaL.n τ
  ok : ∀ {G A H vs t}, repL G A H vs t → ∀ (i : Nat) (s : Sl), (sls t)[i]? = some s → ∃ v, vs[i]? = some v ∧ SlR G A H A H (some v) s
  no : ∀ t s, s ∈ sls t → s.own = false
instance : ArL Nl := ⟨fun _ => [], fun _ => rfl, fun _ i s e => by simp at e, fun _ s h => by simp at h⟩
instance instArLCn {α τ : Type} [Ar α] [PaL τ] [ArL τ] : ArL (Cn α τ) where
  sls := fun t => Ar.sl t.a :: ArL.sls t.r
  len := fun t => by rw [List.length_cons, ArL.len t.r]; rfl
  ok := fun {G A H vs t} ⟨v, r, e, h, k⟩ i s es => by
    subst e
    cases i with
    | zero => cases es; exact ⟨v, rfl, Ar.ok h⟩
    | succ i => exact ArL.ok k i s es
  no := fun t s h => by
    rcases List.mem_cons.mp h with rfl | h
    · exact Ar.no t.a
    · exact ArL.no t.r s h
/-- the promise of a def by its program of values -/
def SpF {τ β : Type} [PaL τ] [Pa β] (G : Gx) (m : τ → W β) : Sp := fun vs H Q E => ∃ A t, Dom A H ∧ repL G A H vs t ∧
  (m t).run (fun b => ∀ v A' H', St A H A' H' → rep G A' H' v b → Q v H') (fun e => ∀ cls d A' H', St A H A' H' → ExR G A' H' e cls d → E cls d H')
def BodyOk {β : Type} [Pa β] (Γ : Cxt) (ts : TS) (δ : List Sl) (m : W β) : Prop := ∀ σ A H Q, Iv Γ A H σ δ →
  m.run (fun b => ∀ v A' H', St Γ.A0 Γ.H0 A' H' → rep Γ.G A' H' v b → Q v H') Γ.Er → ts { nx := fun _ H' => Q .non H', rt := Q } σ H
/-- falling off the end is no return -/
def finR {S β L : Type} (m : W (Res S β L)) : W β := m >>= fun r => match r with
  | .rt b => pure b
  | _ => W.fail
def finN {S L : Type} (m : W (Res S Unit L)) : W Unit := m >>= fun r => match r with
  | .rt b => pure b
  | .nx _ => pure ()
  | _ => W.fail
def finO {S β L : Type} (m : W (Res S (Option β) L)) : W (Option β) := m >>= fun r => match r with
  | .rt b => pure b
  | .nx _ => pure none
  | _ => W.fail
section
variable {Γ : Cxt} {A A' : Av} {H H' : Hp} {σ : L2.St} {δ δ' : List Sl} {S L α β γ τ : Type} {Δ : S → List Sl} {ΔL : L → List Sl} {ts : TS} {te : TE} {tl : TA}
theorem bo_ret [Pa β] {m : W (Res S β L)} (h : StT Γ ts δ m Δ ΔL) : BodyOk Γ ts δ (finR m) := fun σ A H Q I q => by
  refine h σ A H _ I (m.mono (fun r q => ?_) (fun _ h => h) q)
  cases r <;> first | exact q | exact (show False from q).elim
theorem bo_nx {m : W (Res S Unit L)} (h : StT Γ ts δ m Δ ΔL) : BodyOk Γ ts δ (finN m) := fun σ A H Q I q => by
  refine h σ A H _ I (m.mono (fun r q => ?_) (fun _ h => h) q)
  cases r with
  | nx s => exact fun σ' A' H' _ I' => q .non A' H' I'.st rfl
  | _ => first | exact q | exact (show False from q).elim
theorem bo_opt [Py β] {m : W (Res S (Option β) L)} (h : StT Γ ts δ m Δ ΔL) : BodyOk Γ ts δ (finO m) := fun σ A H Q I q => by
  refine h σ A H _ I (m.mono (fun r q => ?_) (fun _ h => h) q)
  cases r with
  | nx s => exact fun σ' A' H' _ I' => q .non A' H' I'.st rfl
  | _ => first | exact q | exact (show False from q).elim
theorem iv_start [PaL τ] [ArL τ] {G : Gx} {vs : List V} {t : τ} {N : List Str} {E : XK} {Er : Exn → Prop} (d : Dom A H) (h : repL G A H vs t) (hn : PaL.n τ ≤ N.length) (he : ∀ e cls d A' H', Er e → St A H A' H' → ExR G A' H' e cls d → E cls d H') :
    Iv ⟨G, A, H, E, Er⟩ A H (L2.start N vs) (ArL.sls t ++ List.replicate (N.length - PaL.n τ) .un) := by
  have hl := PaL.lenL h
  have hs := ArL.len t
  refine ⟨?_, fun i s e => ?_, fun i j s u p hij ei ej oi oj => ?_, d, St.refl d, he⟩
  · unfold L2.start
    rw [List.length_append, List.length_append, List.length_map, List.length_replicate, List.length_replicate, hl, hs]
  · by_cases hi : i < (ArL.sls t).length
    · rw [List.getElem?_append_left hi] at e
      obtain ⟨v, e1, r⟩ := ArL.ok h i s e
      refine ⟨some v, ?_, r⟩
      unfold L2.start
      rw [List.getElem?_append_left (by rw [List.length_map, hl, ← hs]; exact hi), List.getElem?_map, e1]
      rfl
    · rw [List.getElem?_append_right (by omega), List.getElem?_replicate] at e
      split at e
      · rename_i hlt
        cases e
        refine ⟨none, ?_, trivial⟩
        unfold L2.start
        rw [List.getElem?_append_right (by rw [List.length_map, hl, ← hs]; omega), List.getElem?_replicate, List.length_map, hl, ← hs, if_pos]
        omega
      · cases e
  · have no : ∀ (i : Nat) (s : Sl), (ArL.sls t ++ List.replicate (N.length - PaL.n τ) Sl.un)[i]? = some s → s.own = false := fun i s e => by
      have := List.mem_of_getElem? e
      rcases List.mem_append.mp this with z | z
      · exact ArL.no t s z
      · rw [List.eq_of_mem_replicate z]; rfl
    rw [no i s ei] at oi; cases oi
theorem def_ok {P : Program} {w : World} {K : PySem.W.Frag} {mg : Str → Option Value} {base : Heap} {cls : Nat → Addr} {x qual : Str} {st : Stmt} {f : Addr} {fd : FuncData} {N ps : List Str} {k : Nat} [PaL τ] [ArL τ] [Pa β] (m : τ → W β) (F : Fun K x qual st f fd) (S : FnScope N ps (defScope st))
    (hn : PaL.n τ = ps.length) (hn2 : PaL.n τ ≤ N.length)
    (body : ∀ (cdv : Value) (A : Around) (outer : List Env) (s : Shared) (H : Hp) (E : XK) (A0 : Av) (Er : Exn → Prop) (t : τ), Room k (A.deeper (envOfC qual (defScope st) s.heap.objs.size f cdv)) →
      ∃ ts, PSs (cxOf (L2.CX P w) P w K mg base N qual (defScope st) f cdv A outer s H E) (defBody st) ts ∧ BodyOk ⟨⟨K, cls⟩, A0, H, E, Er⟩ ts (ArL.sls t ++ List.replicate (N.length - PaL.n τ) .un) (m t)) :
    FnOk P w K mg base (L2.CX P w) (k + 1) f fd ps (SpF ⟨K, cls⟩ m) := by
  refine F.okX S (fun vs H Q E h => ?_) (fun cdv A outer s H vs Q E hr h => ?_)
  · obtain ⟨A, t, d, r, q⟩ := h
    rw [PaL.lenL r, hn]
  · obtain ⟨A0, t, d, r, q⟩ := h
    obtain ⟨ts, hp, hb⟩ := body cdv A outer s H E A0 (fun e => ∀ cl d A' H', St A0 H A' H' → ExR ⟨K, cls⟩ A' H' e cl d → E cl d H') t hr
    refine ⟨ts, hp, hb _ A0 H Q (iv_start d r hn2 fun e cl d A' H' h s x => h cl d A' H' s x) q⟩
/-! ### calls -/
theorem Iv.erq (I : Iv Γ A H σ δ) {A1 : Av} {H1 : Hp} (s : St A H A1 H1) (e : Exn) (h : Γ.Er e) : ∀ cls d A' H', St A1 H1 A' H' → ExR Γ.G A' H' e cls d → Γ.E cls d H' := fun cls d A' H' s' x => I.er e cls d A' H' h ((I.st.trans s).trans s') x
theorem ev_call [PaL τ] [Pa β] {f : τ → W β} {m : W τ} (h : EvA Γ tl δ m) : EvT Γ (tCall (SpF Γ.G f) [] Γ.E tl) δ (m >>= f) := fun σ A H Q I q => by
  refine h σ A H _ I (m.mono (fun t q vs A1 H1 s1 r1 => ?_) (fun _ h => h) q)
  rw [List.append_nil]
  exact ⟨A1, t, s1.d, r1, (f t).mono (fun b q v A2 H2 s2 r2 => q v A2 H2 (s1.trans s2) r2) (fun e he => I.erq s1 e he) q⟩
/-! ### exceptions -/
class ToD (α : Type) [Pa α] where
  d : α → D
  ok : ∀ {G A H v} {a : α}, rep G A H v a → rep G A H v (d a)
instance : ToD Int := ⟨.int, fun {G A H v a} (h : v = _) => by show repD _ _ _ _ _; unfold repD; exact h⟩
instance : ToD Bool := ⟨.bl, fun {G A H v a} (h : v = _) => by show repD _ _ _ _ _; unfold repD; exact h⟩
instance : ToD Str := ⟨.str, fun {G A H v a} (h : v = _) => by show repD _ _ _ _ _; unfold repD; exact h⟩
instance : ToD Unit := ⟨fun _ => .non, fun {G A H v a} (h : v = _) => by show repD _ _ _ _ _; unfold repD; exact h⟩
instance : ToD D := ⟨id, fun h => h⟩
instance [Py α] [ToD α] : ToD (Option α) := ⟨fun o => match o with | none => .non | some a => ToD.d a, fun {G A H v a} h => by
  cases a with
  | none => show repD _ _ _ _ _; unfold repD; exact h
  | some a => exact ToD.ok h.2⟩
theorem All2.toD [Py α] [ToD α] {G : Gx} {vs : List V} {xs : List α} (k : All2 (rep G A H) vs xs) : repDs G A H (xs.map ToD.d) vs := by
  rw [repDs_iff]
  induction k with
  | nil => exact .nil
  | cons r _ ih => exact .cons (ToD.ok r) ih
instance [Py α] [ToD α] : ToD (List α) := ⟨fun l => .lst (l.map ToD.d), fun {G A H v a} ⟨p, vs, e, h, k⟩ => by show repD _ _ _ _ _; unfold repD; exact ⟨p, vs, e, h, k.toD⟩⟩
instance [Py α] [ToD α] : ToD (Tup α) := ⟨fun l => .tup (l.l.map ToD.d), fun {G A H v a} ⟨p, vs, e, h, k⟩ => by show repD _ _ _ _ _; unfold repD; exact ⟨p, vs, e, h, k.toD⟩⟩
instance [Py α] [Py β] [ToD α] [ToD β] : ToD (T2 α β) := ⟨fun t => .tup [ToD.d t.a, ToD.d t.b], fun {G A H v a} ⟨p, x, y, e, h, h1, h2⟩ => by show repD _ _ _ _ _; unfold repD; exact ⟨p, _, e, h, by rw [repDs_iff]; exact .cons (ToD.ok h1) (.cons (ToD.ok h2) .nil)⟩⟩
instance [Py α] [Py β] [Py γ] [ToD α] [ToD β] [ToD γ] : ToD (T3 α β γ) := ⟨fun t => .tup [ToD.d t.a, ToD.d t.b, ToD.d t.c], fun {G A H v a} ⟨p, x, y, z, e, h, h1, h2, h3⟩ => by show repD _ _ _ _ _; unfold repD; exact ⟨p, _, e, h, by rw [repDs_iff]; exact .cons (ToD.ok h1) (.cons (ToD.ok h2) (.cons (ToD.ok h3) .nil))⟩⟩
theorem st_raise1 [Pa α] [ToD α] [Pa β] {m : W α} (x : Nat) (f : Str) (h : EvT Γ te δ m) :
    StT (S := S) (β := β) Γ (fun _ σ H => te σ H fun y H1 => ∀ d H', H1 d = none → Same H1 H' → H' d = some (.xd [(f, y)]) → Γ.E (.ref (Γ.G.cls x)) (some d) H') δ (m >>= fun a => W.thr ⟨x, [(f, ToD.d a)]⟩) Δ ΔL := fun σ A H D I q => by
  refine h σ A H _ I (m.mono (fun a q v A1 H1 s1 r1 d H' n sm e => ?_) (fun _ h => h) q)
  have s2 : St A1 H1 A1 H' := ⟨fun _ h => h, fun _ h => h, fun _ h => .inl h, fun _ h => .inl h, fun b o _ z => sm b o z, ⟨fun p mp => by
    cases z : H1 p with
    | none => exact absurd z (s1.d.m p mp)
    | some o => rw [sm p o z]; exact nofun, fun p bp => let ⟨o, z, k⟩ := s1.d.b p bp; ⟨o, sm p o z, k⟩, s1.d.s⟩⟩
  exact I.er _ _ _ A1 H' q ((I.st.trans s1).trans s2) ⟨rfl, d, _, rfl, s1.d.nm n, e, .cons ⟨rfl, Pa.st (ToD.ok r1) s1.d s2⟩ .nil⟩
theorem st_raise0 [Pa β] (x : Nat) : StT (S := S) (β := β) Γ (fun _ σ H => Γ.E (.ref (Γ.G.cls x)) none H) δ (W.thr ⟨x, []⟩) Δ ΔL := fun σ A H D I q => I.er _ _ _ A H q I.st ⟨rfl, rfl⟩
/-! ### objects -/
def look (f : Str) : List Fd → Option Fd
  | [] => none
  | q :: r => if q.f = f then some q else look f r
theorem look_of {G : Gx} {ws : List (Str × V)} {fs : List Fd} {f : Str} (k : All2 (FdR G A H) ws fs) : match look f fs with
    | none => ws.lookup f = none
    | some q => ∃ v, ws.lookup f = some v ∧ q.i.rep G A H v q.a := by
  induction k with
  | nil => rfl
  | @cons p q ws fs r k ih =>
    obtain ⟨x, v⟩ := p
    obtain ⟨e, r⟩ := r
    have e : x = q.f := e
    unfold look
    by_cases hf : q.f = f
    · rw [if_pos hf]
      exact ⟨v, by rw [List.lookup_cons, e, hf]; simp, r⟩
    · rw [if_neg hf]
      have : (f == x) = false := by
        rw [e]
        exact beq_eq_false_iff_ne.mpr fun z => hf z.symm
      rw [List.lookup_cons, this]
      exact ih
class Obj (α : Type) where
  nm : Nat
  fds : α → List Fd
def repO {α : Type} [Obj α] (G : Gx) (A : Av) (H : Hp) (v : V) (o : α) : Prop := ∃ a dx ws, v = .ref a ∧ (¬ A.M a ∧ H a = some (.ins (G.cls (Obj.nm α)) dx ws)) ∧ All2 (FdR G A H) ws (Obj.fds o)
@[reducible] def pyObj (α : Type) [Obj α] : Py α where
  rep := repO
  st := fun ⟨a, dx, ws, e, ⟨n, h⟩, k⟩ d s => ⟨a, dx, ws, e, ⟨fun m => (s.nm a m).elim n (fun z => by rw [h] at z; cases z), s.k a _ (fun b => n (d.s a b)) h⟩, k.imp fun _ q r => ⟨r.1, q.i.st r.2 d s⟩⟩
  mv := fun ⟨a, dx, ws, e, ⟨n, h⟩, k⟩ s => ⟨a, dx, ws, e, ⟨fun m => (s.m a m).elim n (fun z => by rw [h] at z; cases z), s.k a _ n h⟩, k.imp fun _ q r => ⟨r.1, q.i.mv r.2 s⟩⟩
/-- an object's type -/
class PyO (α : Type) extends Obj α, Py α where
  is : ∀ {G A H v} {o : α}, rep G A H v o ↔ repO G A H v o
instance [PyO α] : NN α := ⟨fun {G A H v a} h e => by
  obtain ⟨p, _, _, e', _⟩ := PyO.is.mp h
  rw [e'] at e; cases e⟩
theorem ev_fld [PyO α] [Py β] {m : W α} {f : Str} (get : α → β) (c : Cls Γ.G.K (Γ.G.cls (Obj.nm α))) (n : NoAttr Γ.G.K (Γ.G.cls (Obj.nm α)) f) (hl : ∀ o : α, look f (Obj.fds o) = some ⟨f, β, inferInstance, get o⟩) (h : EvT Γ te δ m) :
    EvT Γ (tFld Γ.G.K te f) δ (m >>= fun o => pure (get o)) := fun σ A H Q I q => by
  refine h σ A H _ I (m.mono (fun o q v A1 H1 s1 r1 => ?_) (fun _ h => h) q)
  obtain ⟨a, dx, ws, rfl, ⟨_, hh⟩, k⟩ := PyO.is.mp r1
  have := look_of (f := f) k
  rw [hl o] at this
  obtain ⟨u, e, r⟩ := this
  exact ⟨a, _, dx, ws, u, rfl, hh, c, n, e, q u A1 H1 s1 r⟩
/-- the object that is being made -/
theorem ev_fldS [Py β] {i : Nat} {C : Nat} {x : Addr} {fs : List Fd} {f : Str} {b : β} (c : Cls Γ.G.K (Γ.G.cls C)) (n : NoAttr Γ.G.K (Γ.G.cls C) f) (hl : look f fs = some ⟨f, β, inferInstance, b⟩) (h : δ[i]? = some (.ob C x fs) := by rfl) :
    EvT Γ (tFld Γ.G.K (tVar i) f) δ (pure b) := fun σ A H Q I q => by
  obtain ⟨p, o, e, m, b', n0, hh, ep, dx, ws, rfl, k⟩ := I.own h rfl
  have := look_of (f := f) k
  rw [hl] at this
  obtain ⟨u, e1, r⟩ := this
  exact ⟨_, e, p, _, dx, ws, u, rfl, hh, c, n, e1, q u A H (St.refl I.dom) r⟩
theorem putF_new (f : Str) (v : V) : ∀ ws : List (Str × V), ws.lookup f = none → putF f v ws = ws ++ [(f, v)]
  | [], _ => rfl
  | (g, u) :: ws, h => by
    rw [List.lookup_cons] at h
    cases e : f == g with
    | true => rw [e] at h; cases h
    | false =>
      rw [e] at h
      have hn : ¬ g = f := fun z => by rw [z] at e; simp at e
      unfold putF
      rw [if_neg hn, putF_new f v ws h]
      rfl
theorem st_fld [Py α] [Pa β] {i : Nat} {C : Nat} {x : Addr} {fs : List Fd} {f : Str} {m : W α} (c : Cls Γ.G.K (Γ.G.cls C)) (n : NoAttr Γ.G.K (Γ.G.cls C) f) (ht : EvT Γ te δ m) (hl : look f fs = none) (hz : fs.length < 1000) (h : δ[i]? = some (.ob C x fs) := by rfl) :
    StT (β := β) (L := L) Γ (sFld Γ.G.K (tVar i) te f) δ (m >>= fun a => pure (.nx a)) (fun a => δ.set i (.ob C x (fs ++ [⟨f, α, inferInstance, a⟩]))) ΔL := fun σ A H D I q => by
  refine ht σ A H _ I (m.mono (fun a q v A1 H1 s1 r1 => ?_) (fun _ h => h) q)
  have I1 := I.step s1
  obtain ⟨p, o, e, mp, b', n0, hh, ep, dx, ws, rfl, k⟩ := I1.own h rfl
  have e0 := look_of (f := f) k
  rw [hl] at e0
  refine ⟨_, e, p, _, dx, ws, rfl, hh, c, n, by rw [k.len]; exact hz, ?_⟩
  rw [putF_new f v ws e0]
  obtain ⟨mv, I2⟩ := I1.chg (s' := .ob C x (fs ++ [⟨f, α, inferInstance, a⟩])) (u := .ins (Γ.G.cls C) dx (ws ++ [(f, v)])) h rfl (fun _ _ _ _ _ h => h) e ⟨ep, dx, _, rfl, k.app (.cons ⟨rfl, r1⟩ .nil)⟩
  exact q σ _ _ ((I.stepMv s1).trans mv) I2
/-- __init__ -/
def SpI {α τ : Type} [Obj α] [PaL τ] (G : Gx) (m : τ → W α) : Sp := fun vs H Q E => ∃ A0 H0 x dx ws t, vs = .ref x :: ws ∧ Dom A0 H0 ∧ H0 x = none ∧ H0 dx = none ∧ dx ≠ x ∧ H = upd (upd H0 dx (.own x)) x (.ins (G.cls (Obj.nm α)) dx []) ∧ repL G A0 H0 ws t ∧
  (m t).run (fun o => ∀ A' H' dx fs, St A0 H0 A' H' → A'.M x → ¬ A'.B x → H' x = some (.ins (G.cls (Obj.nm α)) dx fs) → All2 (FdR G A' H') fs (Obj.fds o) → Q .non H') (fun e => ∀ cls d A' H', St A0 H0 A' H' → ExR G A' H' e cls d → E cls d H')
theorem made_st {A0 : Av} {H0 : Hp} {x dx C : Addr} (d : Dom A0 H0) (nx : H0 x = none) (nd : H0 dx = none) (ne : dx ≠ x) : St A0 H0 (A0.add x) (upd (upd H0 dx (.own x)) x (.ins C dx [])) := by
  have s1 : St A0 H0 A0 (upd H0 dx (.own x)) := St.new d nd
  exact s1.trans (St.newM s1.d (by rw [upd_ne (b := x) (Ne.symm ne)]; exact nx))
theorem init_ok {P : Program} {w : World} {K : PySem.W.Frag} {mg : Str → Option Value} {base : Heap} {cls : Nat → Addr} {x qual : Str} {st : Stmt} {f : Addr} {fd : FuncData} {N ps : List Str} {k : Nat} [Obj α] [PaL τ] [ArL τ] (m : τ → W α) (F : Fun K x qual st f fd) (S : FnScope N ps (defScope st))
    (hn : PaL.n τ + 1 = ps.length) (hn2 : PaL.n τ + 1 ≤ N.length)
    (body : ∀ (cdv : Value) (A : Around) (outer : List Env) (s : Shared) (H : Hp) (E : XK) (A0 : Av) (H0 : Hp) (Er : Exn → Prop) (x : Addr) (t : τ), Room k (A.deeper (envOfC qual (defScope st) s.heap.objs.size f cdv)) →
      ∃ ts, PSs (cxOf (L2.CX P w) P w K mg base N qual (defScope st) f cdv A outer s H E) (defBody st) ts ∧
        ∃ (mb : W (Res α Unit Empty)), StT ⟨⟨K, cls⟩, A0, H0, E, Er⟩ ts (.ob (Obj.nm α) x [] :: (ArL.sls t ++ List.replicate (N.length - (PaL.n τ + 1)) .un)) mb (fun o => .ob (Obj.nm α) x (Obj.fds o) :: List.replicate (N.length - 1) .un) (fun e => e.elim) ∧
          mb = (m t >>= fun o => pure (.nx o))) :
    FnOk P w K mg base (L2.CX P w) (k + 1) f fd ps (SpI ⟨K, cls⟩ m) := by
  refine F.okX S (fun vs H Q E h => ?_) (fun cdv A outer s H vs Q E hr h => ?_)
  · obtain ⟨A, H0, x, dx, ws, t, rfl, d, _, _, _, _, r, q⟩ := h
    rw [List.length_cons, PaL.lenL r, hn]
  · obtain ⟨A0, H0, x, dx, ws, t, rfl, d, nx, nd, ne, rfl, r, q⟩ := h
    obtain ⟨ts, hp, mb, hb, rfl⟩ := body cdv A outer s _ E A0 H0 (fun e => ∀ cl d A' H', St A0 H0 A' H' → ExR ⟨K, cls⟩ A' H' e cl d → E cl d H') x t hr
    have s1 := made_st (C := cls (Obj.nm α)) d nx nd ne
    have hl := PaL.lenL r
    have hs := ArL.len t
    refine ⟨ts, hp, hb _ _ _ _ ⟨?_, fun i s e => ?_, fun i j s u p hij ei ej oi oj pi pj => ?_, d, s1, fun e cl d A' H' h s x => h cl d A' H' s x⟩ ((m t).mono (fun o q σ' A' H' mv I => ?_) (fun _ h => h) q)⟩
    · unfold L2.start
      simp only [List.length_append, List.length_map, List.length_replicate, List.length_cons, hl, hs] <;> omega
    · cases i with
      | zero =>
        cases e
        exact ⟨some (.ref x), rfl, x, _, rfl, .inr rfl, fun b => d.nm nx (d.s x b), nx, upd_same, rfl, dx, [], rfl, .nil⟩
      | succ i =>
        rw [List.getElem?_cons_succ] at e
        by_cases hi : i < (ArL.sls t).length
        · rw [List.getElem?_append_left hi] at e
          obtain ⟨v, e1, r2⟩ := ArL.ok r i s e
          refine ⟨some v, ?_, r2.step d s1⟩
          unfold L2.start
          rw [List.getElem?_append_left (by rw [List.length_map, List.length_cons, hl, ← hs]; omega), List.getElem?_map, List.getElem?_cons_succ, e1]
          rfl
        · rw [List.getElem?_append_right (by omega), List.getElem?_replicate] at e
          split at e
          · rename_i hlt
            cases e
            refine ⟨none, ?_, trivial⟩
            unfold L2.start
            rw [List.getElem?_append_right (by rw [List.length_map, List.length_cons, hl, ← hs]; omega), List.getElem?_replicate, List.length_map, List.length_cons, hl, ← hs, if_pos]
            omega
          · cases e
    · have no : ∀ (i : Nat) (s : Sl), (Sl.ob (Obj.nm α) x [] :: (ArL.sls t ++ List.replicate (N.length - (PaL.n τ + 1)) Sl.un))[i]? = some s → s.own = true → i = 0 := fun i s e ho => by
        cases i with
        | zero => rfl
        | succ i =>
          have := List.mem_of_getElem? (show (ArL.sls t ++ List.replicate (N.length - (PaL.n τ + 1)) Sl.un)[i]? = some s from e)
          rcases List.mem_append.mp this with z | z
          · rw [ArL.no t s z] at ho; cases ho
          · rw [List.eq_of_mem_replicate z] at ho; cases ho
      exact hij ((no i s ei oi).trans (no j u ej oj).symm)
    · obtain ⟨p, o', e, mp, bp, n0, hh, ep, dx', ws', rfl, kk⟩ := I.own (i := 0) rfl rfl
      subst ep
      exact q A' H' dx' ws' I.st mp bp hh kk
theorem ev_make [PyO α] [PaL τ] {f : τ → W α} {m : W τ} (h : EvA Γ tl δ m) : EvT Γ (tMake (Γ.G.cls (Obj.nm α)) (SpI Γ.G f) [] Γ.E tl) δ (m >>= f) := fun σ A H Q I q => by
  refine h σ A H _ I (m.mono (fun t q vs A1 H1 s1 r1 x dx nx nd ne => ?_) (fun _ h => h) q)
  rw [List.append_nil]
  refine ⟨A1, H1, x, dx, vs, t, rfl, s1.d, nx, nd, ne, rfl, r1, (f t).mono (fun o q A' H' dx' fs st mx bx hh k => ⟨rfl, ?_⟩) (fun e he => I.erq s1 e he) q⟩
  exact q _ (A'.del x) H' (s1.trans (st.del s1.d nx bx)) (PyO.is.mpr ⟨x, dx', fs, rfl, ⟨fun z => z.2 rfl, hh⟩, k.imp fun _ q r => ⟨r.1, q.i.mv r.2 (Mv.del st.d)⟩⟩)
/-- o.m(..) -/
theorem ev_meth [PyO α] [PaL τ] [Pa β] {mn : Str} {mo : W α} {m : W τ} {f : Cn α τ → W β} (hm : ∀ o : α, look mn (Obj.fds o) = none) (ho : EvT Γ te δ mo) (h : EvA Γ tl δ m) :
    EvT Γ (tMeth (Γ.G.cls (Obj.nm α)) mn (SpF Γ.G f) [] Γ.E te tl) δ (mo >>= fun o => m >>= fun t => f ⟨o, t⟩) := fun σ A H Q I q => by
  refine ho σ A H _ I (mo.mono (fun o q v A1 H1 s1 r1 => ?_) (fun _ h => h) q)
  obtain ⟨a, dx, ws, rfl, ⟨_, hh⟩, k⟩ := PyO.is.mp r1
  have e0 := look_of (f := mn) k
  rw [hm o] at e0
  refine ⟨a, dx, ws, rfl, hh, e0, ?_⟩
  refine h σ A1 H1 _ (I.step s1) (m.mono (fun t q vs A2 H2 s2 r2 => ?_) (fun _ h => h) q)
  rw [List.append_nil]
  have s12 := s1.trans s2
  exact ⟨A2, ⟨o, t⟩, s2.d, ⟨_, vs, rfl, Pa.st r1 s1.d s2, r2⟩, (f ⟨o, t⟩).mono (fun b q v A3 H3 s3 r3 => q v A3 H3 (s12.trans s3) r3) (fun e he => I.erq s12 e he) q⟩
/-- abbreviations of blocks -/
abbrev setW {α β L : Type} (m : W α) : W (Res α β L) := m >>= fun a => pure (.nx a)
abbrev retW {S β L : Type} (m : W β) : W (Res S β L) := m >>= fun a => pure (.rt a)
abbrev dropW {α β L : Type} (m : W α) : W (Res Unit β L) := m >>= fun _ => pure (.nx ())
abbrev ifW {α : Type} (c : W Bool) (m n : W α) : W α := c >>= fun b => if b = true then m else n
end
/-- a def that raises nothing -/
theorem fn_cx0 {P : Program} {w : World} {K : PySem.W.Frag} {mg : Str → Option Value} {base : Heap} {k : Nat} {f : Addr} {fd : FuncData} {ps : List Str} {sp sp' : Sp} (F : FnOk P w K mg base (L2.CX P w) k f fd ps sp) (h : ∀ vs H Q E, sp' vs H Q E → sp vs H Q E0) : FnOk P w K mg base CX0 k f fd ps sp' := by
  refine ⟨fun vs H Q E q => F.len vs H Q E0 (h _ _ _ _ q), fun A outer s H args us vs Q E hr e0 hb hv hs => ?_⟩
  refine codeAny_mono (F.run A outer s H args us vs Q E0 hr e0 hb hv (h _ _ _ _ hs)) fun r s' hq => ?_
  cases r with
  | error e =>
    obtain ⟨_, _, _, _, _, _, _, _, _, _, _, _, z⟩ := hq
    exact z.elim
  | ok fl => cases fl <;> exact hq
end TW
set_option Elab.async false
set_option maxRecDepth 100000
set_option maxHeartbeats 4000000
namespace My
open PySem L2
/-! ### lists of ints and of bools as data -/
theorem lay_ints : ∀ ns : List Int, PyData.canLayAll0 (ns.map PyData.int) = true ∧ PyData.depthAll (ns.map PyData.int) = 0
  | [] => by simp [PyData.canLayAll0, PyData.depthAll]
  | n :: r => by
    have h := lay_ints r
    simp [PyData.canLayAll0, PyData.depthAll, PyData.canLay0, PyData.depth, h.1, h.2]
theorem lay_bls : ∀ ns : List Bool, PyData.canLayAll0 (ns.map PyData.bool) = true ∧ PyData.depthAll (ns.map PyData.bool) = 0
  | [] => by simp [PyData.canLayAll0, PyData.depthAll]
  | n :: r => by
    have h := lay_bls r
    simp [PyData.canLayAll0, PyData.depthAll, PyData.canLay0, PyData.depth, h.1, h.2]
theorem shaped_ints (ns : List Int) : SeqAt.shaped (.list (ns.map .int)) = true := by
  have h := lay_ints ns
  simp [SeqAt.shaped, PyData.canLay0, PyData.depth, h.1, h.2]
theorem shaped_intsT (ns : List Int) : SeqAt.shaped (.tuple (ns.map .int)) = true := by
  have h := lay_ints ns
  simp [SeqAt.shaped, PyData.canLay0, PyData.depth, h.1, h.2]
theorem shaped_bls (ns : List Bool) : SeqAt.shaped (.list (ns.map .bool)) = true := by
  have h := lay_bls ns
  simp [SeqAt.shaped, PyData.canLay0, PyData.depth, h.1, h.2]
theorem eqv_ints : ∀ ns ms : List Int, PyData.eqvAll (ns.map .int) (ms.map .int) = decide (ns = ms)
  | [], [] => by simp [PyData.eqvAll]
  | [], _ :: _ => by simp [PyData.eqvAll]
  | _ :: _, [] => by simp [PyData.eqvAll]
  | n :: r, m :: t => by
    have h := eqv_ints r t
    simp only [List.map_cons, PyData.eqvAll, PyData.eqv, h, List.cons.injEq, Bool.decide_and]
    congr 1
theorem eqv_bls : ∀ ns ms : List Bool, PyData.eqvAll (ns.map .bool) (ms.map .bool) = decide (ns = ms)
  | [], [] => by simp [PyData.eqvAll]
  | [], _ :: _ => by simp [PyData.eqvAll]
  | _ :: _, [] => by simp [PyData.eqvAll]
  | n :: r, m :: t => by
    have h := eqv_bls r t
    simp only [List.map_cons, PyData.eqvAll, PyData.eqv, h, List.cons.injEq, Bool.decide_and]
    congr 1
theorem dp_ints {K : PySem.W.Frag} {H : Hp} : ∀ ns : List Int, DpAll K H (ns.map V.int) (ns.map .int)
  | [] => .nil
  | n :: r => .cons (.int n) (dp_ints r)
theorem dp_bls {K : PySem.W.Frag} {H : Hp} : ∀ ns : List Bool, DpAll K H (ns.map V.bl) (ns.map .bool)
  | [] => .nil
  | n :: r => .cons (.bl n) (dp_bls r)
/-- == of two lists of ints | bools, of two tuples of ints -/
theorem eq_ints {K : PySem.W.Frag} {H : Hp} {Q : VK} {a b : Addr} {ns ms : List Int} (ha : SqL K H a (ns.map V.int)) (hb : SqL K H b (ms.map V.int)) (q : Q (.bl (decide (ns = ms))) H) : rEqD K (.ref a) (.ref b) H Q :=
  ⟨_, _, .lst ha (dp_ints ns), .lst hb (dp_ints ms), shaped_ints _, shaped_ints _, by rw [show PyData.eqv (.list (ns.map .int)) (.list (ms.map .int)) = decide (ns = ms) from by rw [← eqv_ints]; simp [PyData.eqv]]; exact q⟩
theorem ne_ints {K : PySem.W.Frag} {H : Hp} {Q : VK} {a b : Addr} {ns ms : List Int} (ha : SqL K H a (ns.map V.int)) (hb : SqL K H b (ms.map V.int)) (q : Q (.bl (!decide (ns = ms))) H) : rNeD K (.ref a) (.ref b) H Q :=
  ⟨_, _, .lst ha (dp_ints ns), .lst hb (dp_ints ms), shaped_ints _, shaped_ints _, by rw [show PyData.eqv (.list (ns.map .int)) (.list (ms.map .int)) = decide (ns = ms) from by rw [← eqv_ints]; simp [PyData.eqv]]; exact q⟩
theorem ne_intsT {K : PySem.W.Frag} {H : Hp} {Q : VK} {a b : Addr} {ns ms : List Int} (ha : SqT K H a (ns.map V.int)) (hb : SqT K H b (ms.map V.int)) (q : Q (.bl (!decide (ns = ms))) H) : rNeD K (.ref a) (.ref b) H Q :=
  ⟨_, _, .tup ha (dp_ints ns), .tup hb (dp_ints ms), shaped_intsT _, shaped_intsT _, by rw [show PyData.eqv (.tuple (ns.map .int)) (.tuple (ms.map .int)) = decide (ns = ms) from by rw [← eqv_ints]; simp [PyData.eqv]]; exact q⟩
theorem eq_bls {K : PySem.W.Frag} {H : Hp} {Q : VK} {a b : Addr} {ns ms : List Bool} (ha : SqL K H a (ns.map V.bl)) (hb : SqL K H b (ms.map V.bl)) (q : Q (.bl (decide (ns = ms))) H) : rEqD K (.ref a) (.ref b) H Q :=
  ⟨_, _, .lst ha (dp_bls ns), .lst hb (dp_bls ms), shaped_bls _, shaped_bls _, by rw [show PyData.eqv (.list (ns.map .bool)) (.list (ms.map .bool)) = decide (ns = ms) from by rw [← eqv_bls]; simp [PyData.eqv]]; exact q⟩
theorem ne_bls {K : PySem.W.Frag} {H : Hp} {Q : VK} {a b : Addr} {ns ms : List Bool} (ha : SqL K H a (ns.map V.bl)) (hb : SqL K H b (ms.map V.bl)) (q : Q (.bl (!decide (ns = ms))) H) : rNeD K (.ref a) (.ref b) H Q :=
  ⟨_, _, .lst ha (dp_bls ns), .lst hb (dp_bls ms), shaped_bls _, shaped_bls _, by rw [show PyData.eqv (.list (ns.map .bool)) (.list (ms.map .bool)) = decide (ns = ms) from by rw [← eqv_bls]; simp [PyData.eqv]]; exact q⟩

/-! ### day sets as naturals -/
def nInt (ds : List Nat) : List Int := ds.map fun d : Nat => (d : Int)
/-- the set with these days -/
def setOf (ds : List Nat) : Nat := ds.foldl (fun s d => s ||| 2 ^ d) 0
theorem bit_pow (d i : Nat) : (2 ^ d).testBit i = decide (d = i) := Nat.testBit_two_pow
theorem setOf_go (ds : List Nat) (s i : Nat) : (ds.foldl (fun s d => s ||| 2 ^ d) s).testBit i = (s.testBit i || decide (i ∈ ds)) := by
  induction ds generalizing s with
  | nil => simp
  | cons d r ih =>
    rw [List.foldl_cons, ih, Nat.testBit_or, bit_pow]
    by_cases h : d = i
    · subst h; simp
    · have h2 : ¬ i = d := fun e => h e.symm
      simp [h, h2]
theorem setOf_bit (ds : List Nat) (i : Nat) : (setOf ds).testBit i = decide (i ∈ ds) := by
  unfold setOf
  rw [setOf_go]
  simp
theorem setOf_ext {ds es : List Nat} (h : ∀ i, i ∈ ds ↔ i ∈ es) : setOf ds = setOf es := by
  refine Nat.eq_of_testBit_eq fun i => ?_
  rw [setOf_bit, setOf_bit]
  simp [h i]
/-- a bit that is not there, added -/
theorem add_bit {s d : Nat} (h : s.testBit d = false) : s + 2 ^ d = s ||| 2 ^ d := by
  have e := Nat.div_add_mod s (2 ^ (d + 1))
  have hr : s % 2 ^ (d + 1) < 2 ^ d := by
    have h1 := Nat.testBit_eq_decide_div_mod_eq (x := s) (i := d)
    rw [h] at h1
    have h2 : ¬ (s / 2 ^ d % 2 = 1) := by simpa using h1.symm
    have h3 : s % 2 ^ (d + 1) = s % 2 ^ d + 2 ^ d * (s / 2 ^ d % 2) := by rw [Nat.pow_succ, Nat.mod_mul]
    have h4 : s / 2 ^ d % 2 = 0 := by omega
    rw [h3, h4]
    have := Nat.mod_lt s (Nat.two_pow_pos d)
    omega
  have h5 : 2 ^ d + s % 2 ^ (d + 1) = 2 ^ d ||| s % 2 ^ (d + 1) := by
    have := Nat.two_pow_add_eq_or_of_lt hr 1
    simpa using this
  have h6 : 2 ^ d + s % 2 ^ (d + 1) < 2 ^ (d + 1) := by have e2 := Nat.pow_succ (n := 2) (m := d); omega
  have h7 := Nat.two_pow_add_eq_or_of_lt h6 (s / 2 ^ (d + 1))
  have h8 := Nat.two_pow_add_eq_or_of_lt (Nat.lt_trans hr (Nat.pow_lt_pow_right (by decide) (Nat.lt_succ_self d))) (s / 2 ^ (d + 1))
  calc s + 2 ^ d = 2 ^ (d + 1) * (s / 2 ^ (d + 1)) + (2 ^ d + s % 2 ^ (d + 1)) := by omega
    _ = 2 ^ (d + 1) * (s / 2 ^ (d + 1)) ||| (2 ^ d ||| s % 2 ^ (d + 1)) := by rw [h7, h5]
    _ = (2 ^ (d + 1) * (s / 2 ^ (d + 1)) ||| s % 2 ^ (d + 1)) ||| 2 ^ d := by rw [Nat.or_comm (2 ^ d), Nat.or_assoc]
    _ = s ||| 2 ^ d := by rw [← h8, e]
theorem sum_go (ds : List Nat) (s : Nat) (hn : ds.Nodup) (hs : ∀ d ∈ ds, s.testBit d = false) : s + (ds.map fun d => 2 ^ d).sum = ds.foldl (fun s d => s ||| 2 ^ d) s := by
  induction ds generalizing s with
  | nil => simp
  | cons d r ih =>
    rw [List.nodup_cons] at hn
    rw [List.map_cons, List.sum_cons, List.foldl_cons, ← ih _ hn.2, ← Nat.add_assoc, add_bit (hs d List.mem_cons_self)]
    intro i hi
    have hd : d ≠ i := fun e => hn.1 (e ▸ hi)
    rw [Nat.testBit_or, bit_pow, hs i (List.mem_cons_of_mem _ hi)]
    simp [hd]
theorem sum_setOf {ds : List Nat} (hn : ds.Nodup) : (ds.map fun d => 2 ^ d).sum = setOf ds := by
  have := sum_go ds 0 hn (fun d _ => Nat.zero_testBit d)
  unfold setOf
  omega
/-- the days in a set below 2 ^ 16 -/
def daysOf (n : Nat) : List Nat := (List.range 16).filter fun d => n.testBit d
theorem mem_daysOf {n d : Nat} : d ∈ daysOf n ↔ d < 16 ∧ n.testBit d = true := by
  unfold daysOf
  rw [List.mem_filter, List.mem_range]
theorem daysOf_more {n m : Nat} (h : n < 2 ^ m) (hm : m ≤ 16) : (List.range m).filter (fun d => n.testBit d) = daysOf n := by
  obtain ⟨k, hk⟩ := Nat.exists_eq_add_of_le hm
  unfold daysOf
  rw [hk, List.range_add, List.filter_append]
  have e : (List.map (fun x => m + x) (List.range k)).filter (fun d => n.testBit d) = [] := by
    rw [List.filter_eq_nil_iff]
    intro a ha
    obtain ⟨j, _, rfl⟩ := List.mem_map.mp ha
    rw [Nat.testBit_lt_two_pow (Nat.lt_of_lt_of_le h (Nat.pow_le_pow_right (by decide) (Nat.le_add_right m j)))]
    decide
  rw [e, List.append_nil]
/-- sorted days below 16 are the days of their set -/
theorem daysOf_filter {m : Nat} (f : Nat → Bool) (hm : m ≤ 16) : daysOf (setOf ((List.range m).filter f)) = (List.range m).filter f := by
  obtain ⟨k, hk⟩ := Nat.exists_eq_add_of_le hm
  unfold daysOf
  rw [hk, List.range_add, List.filter_append]
  have e : (List.map (fun x => m + x) (List.range k)).filter (fun d => (setOf ((List.range m).filter f)).testBit d) = [] := by
    rw [List.filter_eq_nil_iff]
    intro a ha
    obtain ⟨j, _, rfl⟩ := List.mem_map.mp ha
    rw [setOf_bit]
    have z : ¬ m + j < m := by omega
    simp [z]
  rw [e, List.append_nil]
  refine List.filter_congr fun d hd => ?_
  have hd' := List.mem_range.mp hd
  rw [setOf_bit]
  simp [hd']
theorem setOf_lt {ds : List Nat} {m : Nat} (h : ∀ d ∈ ds, d < m) : setOf ds < 2 ^ m := by
  refine Nat.lt_pow_two_of_testBit _ fun i hi => ?_
  rw [setOf_bit]
  simp only [decide_eq_false_iff_not]
  intro hm
  have := h i hm
  omega
/-- one set within another -/
theorem sub_iff (a b : Nat) : a &&& b = a ↔ ∀ i, a.testBit i = true → b.testBit i = true := by
  constructor
  · intro h i hi
    have : (a &&& b).testBit i = true := by rw [h]; exact hi
    rw [Nat.testBit_and] at this
    exact (Bool.and_eq_true_iff.mp this).2
  · intro h
    refine Nat.eq_of_testBit_eq fun i => ?_
    rw [Nat.testBit_and]
    cases e : a.testBit i with
    | false => rfl
    | true => rw [h i e]; rfl
end My
set_option Elab.async false
set_option maxRecDepth 100000
set_option maxHeartbeats 4000000
set_option linter.all false
set_option autoImplicit false
/-! TW5: further rules -/
namespace TW
open Pa (rep)
open PaL (repL)
open PySem PySem.Spec PyProof.Rows L2 My
section
variable {Γ : Cxt} {A A' : Av} {H H' : Hp} {σ : L2.St} {δ δ' : List Sl} {S S1 L α β γ τ : Type} {Δ : S → List Sl} {ΔL : L → List Sl} {ts : TS} {ta tb te : TE} {tl : TA}
theorem st_map [Pa β] {Δ1 : S1 → List Sl} {m : W (Res S1 β L)} (g : S1 → S) (h : StT Γ ts δ m Δ1 ΔL) (k : ∀ s, Le (Δ1 s) (Δ (g s))) : StT Γ ts δ (seqW m fun s => pure (.nx (g s))) Δ ΔL := fun σ A H D I q => by
  refine h σ A H _ I (m.mono (fun r q => ?_) (fun _ h => h) q)
  cases r with
  | nx s => exact fun σ' A' H' m I' => q σ' A' H' m (I'.le (k s))
  | rt b => exact q
  | bk l => exact q
  | ct l => exact q
theorem ev_ctup [Py α] {a : Addr} {xs : List α} (h : ∀ A H, ∃ vs, SqT Γ.G.K (fun _ => none) a vs ∧ All2 (rep Γ.G A H) vs xs) : EvT (α := Tup α) Γ (tC (.ref a)) δ (pure ⟨xs⟩) := fun σ A H Q I q => by
  obtain ⟨vs, h, k⟩ := h A H
  exact q _ A H (St.refl I.dom) ⟨a, vs, rfl, .inr h, k⟩
/-- one value, stored by a target -/
theorem st_asg [Py α] [Pa β] {g : TG} {bd : α → List Sl → List Sl} {js : List Nat} {n : Nat} {m : W α} (h : EvT Γ te δ m) (hg : EvG Γ g bd js n) (hn : δ.length = n) : StT (β := β) (L := L) Γ (tAsg te g) δ (m >>= fun a => pure (.nx a)) (fun a => bd a δ) ΔL := fun σ A H D I q => by
  refine h σ A H _ I (m.mono (fun a q v A1 H1 s1 r1 => ?_) (fun _ h => h) q)
  exact hg.2 v a A1 H1 σ δ hn (I.step s1) r1 _ fun l _ I2 => q _ A1 H1 (I.stepMv s1) I2
theorem st_par [Py α] [Py γ] [Pa β] {i j : Nat} {m : W α} {n : W γ} (h : EvT Γ ta δ m) (k : EvT Γ tb δ n) (hi : i < δ.length := by first | decide | simp) (hj : j < δ.length := by first | decide | simp) :
    StT (β := β) (L := L) Γ (tPar i j (tCons ta (tCons tb tNil))) δ ((m >>= fun a => n >>= fun b => pure (T2.mk a b)) >>= fun a => pure (.nx a)) (fun t => (δ.set i (.fx α t.a)).set j (.fx γ t.b)) ΔL := fun σ A H D I q => by
  refine h σ A H _ I (m.mono (fun a q x A1 H1 s1 r1 => ?_) (fun _ h => h) q)
  refine k σ A1 H1 _ (I.step s1) (n.mono (fun b q y A2 H2 s2 r2 => ?_) (fun _ h => h) q)
  have I2 := I.step (s1.trans s2)
  refine ⟨x, y, rfl, q _ A2 H2 (I.stepMv (s1.trans s2)) ((I2.fx (Pa.st r1 s1.d s2) hi).fx r2 (by rw [List.length_set]; exact hj))⟩
theorem st_par3 [Py α] [Py γ] [Py τ] [Pa β] {i j l : Nat} {tc : TE} {m : W α} {n : W γ} {o : W τ} (h : EvT Γ ta δ m) (k : EvT Γ tb δ n) (k3 : EvT Γ tc δ o) (hi : i < δ.length := by first | decide | simp) (hj : j < δ.length := by first | decide | simp) (hl : l < δ.length := by first | decide | simp) :
    StT (β := β) (L := L) Γ (tPar3 i j l (tCons ta (tCons tb (tCons tc tNil)))) δ ((m >>= fun a => n >>= fun b => o >>= fun c => pure (T3.mk a b c)) >>= fun a => pure (.nx a)) (fun t => ((δ.set i (.fx α t.a)).set j (.fx γ t.b)).set l (.fx τ t.c)) ΔL := fun σ A H D I q => by
  refine h σ A H _ I (m.mono (fun a q x A1 H1 s1 r1 => ?_) (fun _ h => h) q)
  refine k σ A1 H1 _ (I.step s1) (n.mono (fun b q y A2 H2 s2 r2 => ?_) (fun _ h => h) q)
  refine k3 σ A2 H2 _ (I.step (s1.trans s2)) (o.mono (fun c q z A3 H3 s3 r3 => ?_) (fun _ h => h) q)
  have s23 := s2.trans s3
  have I3 := I.step (s1.trans s23)
  refine ⟨x, y, z, rfl, q _ A3 H3 (I.stepMv (s1.trans s23)) (((I3.fx (Pa.st r1 s1.d s23) hi).fx (Pa.st r2 s2.d s3) (by rw [List.length_set]; exact hj)).fx r3 (by rw [List.length_set, List.length_set]; exact hl))⟩
theorem ev_bits {m : W Int} (h : EvT Γ te δ m) : EvT Γ (tBits te) δ (m >>= fun a => (pure ((Builtin.Int.intBits a : Nat) : Int) : W Int)) := fun σ A H Q I q =>
  h σ A H _ I (m.mono (fun a q v A1 H1 s1 r1 => ⟨a, r1, q _ A1 H1 s1 rfl⟩) (fun _ h => h) q)
/-! ### == of data -/
class Dt (α : Type) [Pa α] where
  d : α → PyData
  ok : ∀ {G A H v} {a : α}, rep G A H v a → Dp G.K H v (d a)
instance : Dt Int := ⟨.int, fun {G A H v a} (h : v = _) => by rw [h]; exact .int _⟩
instance : Dt Bool := ⟨.bool, fun {G A H v a} (h : v = _) => by rw [h]; exact .bl _⟩
instance : Dt Str := ⟨.str, fun {G A H v a} (h : v = _) => by rw [h]; exact .str _⟩
instance : Dt Unit := ⟨fun _ => .none, fun {G A H v a} (h : v = _) => by rw [h]; exact .non⟩
instance [Py α] [Dt α] : Dt (Option α) := ⟨fun o => match o with | none => .none | some a => Dt.d a, fun {G A H v a} h => by
  cases a with
  | none => rw [show v = .non from h]; exact .non
  | some a => exact Dt.ok h.2⟩
theorem All2.dp [Py α] [Dt α] {G : Gx} {vs : List V} {xs : List α} (k : All2 (rep G A H) vs xs) : DpAll G.K H vs (xs.map Dt.d) := by
  induction k with
  | nil => exact .nil
  | cons r _ ih => exact .cons (Dt.ok r) ih
instance [Py α] [Dt α] : Dt (Bor α) := ⟨fun l => .list (l.l.map Dt.d), fun {G A H v a} h => by
  obtain ⟨p, vs, rfl, h, k⟩ := bor_sq h
  exact .lst h k.dp⟩
instance [Py α] [Dt α] : Dt (List α) := ⟨fun l => .list (l.map Dt.d), fun {G A H v a} ⟨p, vs, e, h, k⟩ => by subst e; exact .lst h.sq k.dp⟩
instance [Py α] [Dt α] : Dt (Tup α) := ⟨fun l => .tuple (l.l.map Dt.d), fun {G A H v a} ⟨p, vs, e, h, k⟩ => by subst e; exact .tup h.sq k.dp⟩
instance [Py α] [Py β] [Dt α] [Dt β] : Dt (T2 α β) := ⟨fun t => .tuple [Dt.d t.a, Dt.d t.b], fun {G A H v a} ⟨p, x, y, e, h, h1, h2⟩ => by subst e; exact .tup h.sq (.cons (Dt.ok h1) (.cons (Dt.ok h2) .nil))⟩
instance [Py α] [Py β] [Py γ] [Dt α] [Dt β] [Dt γ] : Dt (T3 α β γ) := ⟨fun t => .tuple [Dt.d t.a, Dt.d t.b, Dt.d t.c], fun {G A H v a} ⟨p, x, y, z, e, h, h1, h2, h3⟩ => by subst e; exact .tup h.sq (.cons (Dt.ok h1) (.cons (Dt.ok h2) (.cons (Dt.ok h3) .nil)))⟩
def shd [Pa α] [Dt α] (a : α) : Prop := SeqAt.shaped (Dt.d a) = true
def dtEq [Pa α] [Pa β] [Dt α] [Dt β] (a : α) (b : β) : Bool := PyData.eqv (Dt.d a) (Dt.d b)
theorem ov_eqD [Pa α] [Pa β] [Dt α] [Dt β] : OpV Γ (rEqD Γ.G.K) (fun (a : α) (b : β) => W.need (shd a ∧ shd b) >>= fun _ => (pure (dtEq a b) : W Bool)) := fun x y A H Q a b d hx hy q =>
  ⟨_, _, Dt.ok hx, Dt.ok hy, q.1.1, q.1.2, q.2 _ A H (St.refl d) rfl⟩
theorem ov_neD [Pa α] [Pa β] [Dt α] [Dt β] : OpV Γ (rNeD Γ.G.K) (fun (a : α) (b : β) => W.need (shd a ∧ shd b) >>= fun _ => (pure (!dtEq a b) : W Bool)) := fun x y A H Q a b d hx hy q =>
  ⟨_, _, Dt.ok hx, Dt.ok hy, q.1.1, q.1.2, q.2 _ A H (St.refl d) rfl⟩
@[simp] theorem shd_bi (a : Bor Int) : shd a := shaped_ints a.l
@[simp] theorem shd_li (a : List Int) : shd a := shaped_ints a
@[simp] theorem shd_ti (a : Tup Int) : shd a := shaped_intsT a.l
@[simp] theorem dtEq_bi (a b : Bor Int) : dtEq a b = decide (a.l = b.l) := by
  show PyData.eqv (.list (a.l.map .int)) (.list (b.l.map .int)) = _
  rw [← eqv_ints]; simp [PyData.eqv]
@[simp] theorem dtEq_ti (a b : Tup Int) : dtEq a b = decide (a.l = b.l) := by
  show PyData.eqv (.tuple (a.l.map .int)) (.tuple (b.l.map .int)) = _
  rw [← eqv_ints]; simp [PyData.eqv]
/-! ### in -/
def inF [Py α] [Py β] [Fl α] [Fl β] (a : α) (l : List β) : Bool := inV (Fl.to a) (l.map Fl.to)
theorem fl_flat [Py α] [Fl α] (a : α) : flatV (Fl.to a) = true := by
  rcases Fl.sc a with e | ⟨_, e⟩ | ⟨_, e⟩ | ⟨_, e⟩ <;> rw [e] <;> rfl
theorem All2.fl [Py α] [Fl α] {G : Gx} {vs : List V} {xs : List α} (k : All2 (rep G A H) vs xs) : vs = xs.map Fl.to := k.map_eq _ fun _ _ r => Fl.rp r
theorem all_flat [Py α] [Fl α] (xs : List α) : (xs.map (Fl.to (α := α))).all flatV = true := by
  rw [List.all_map]
  exact List.all_eq_true.mpr fun a _ => fl_flat a
theorem ov_inL [Py α] [Py β] [Fl α] [Fl β] : OpV Γ (rIn Γ.G.K false) (fun (a : α) (b : Bor β) => (pure (inF a b.l) : W Bool)) := fun x y A H Q a b d hx hy q => by
  obtain ⟨p, vs, rfl, h, k⟩ := bor_sq hy
  have e := Fl.rp hx
  subst e
  rw [k.fl] at h
  exact ⟨p, _, rfl, .inl h, fl_flat a, all_flat b.l, q _ A H (St.refl d) rfl⟩
theorem ov_notinL [Py α] [Py β] [Fl α] [Fl β] : OpV Γ (rIn Γ.G.K true) (fun (a : α) (b : Bor β) => (pure (!inF a b.l) : W Bool)) := fun x y A H Q a b d hx hy q => by
  obtain ⟨p, vs, rfl, h, k⟩ := bor_sq hy
  have e := Fl.rp hx
  subst e
  rw [k.fl] at h
  exact ⟨p, _, rfl, .inl h, fl_flat a, all_flat b.l, q _ A H (St.refl d) rfl⟩
theorem ov_inT [Py α] [Py β] [Fl α] [Fl β] : OpV Γ (rIn Γ.G.K false) (fun (a : α) (b : Tup β) => (pure (inF a b.l) : W Bool)) := fun x y A H Q a b d hx hy q => by
  obtain ⟨p, vs, rfl, h, k⟩ := hy
  have e := Fl.rp hx
  subst e
  have h := h.sq
  rw [k.fl] at h
  exact ⟨p, _, rfl, .inr h, fl_flat a, all_flat b.l, q _ A H (St.refl d) rfl⟩
theorem ov_notinT [Py α] [Py β] [Fl α] [Fl β] : OpV Γ (rIn Γ.G.K true) (fun (a : α) (b : Tup β) => (pure (!inF a b.l) : W Bool)) := fun x y A H Q a b d hx hy q => by
  obtain ⟨p, vs, rfl, h, k⟩ := hy
  have e := Fl.rp hx
  subst e
  have h := h.sq
  rw [k.fl] at h
  exact ⟨p, _, rfl, .inr h, fl_flat a, all_flat b.l, q _ A H (St.refl d) rfl⟩
@[simp] theorem inF_ii (a : Int) (l : List Int) : inF a l = decide (a ∈ l) := by
  induction l with
  | nil => rfl
  | cons b l ih =>
    show (eqV (.int b) (.int a) || inF a l) = _
    rw [ih]
    show ((b == a) || _) = _
    by_cases h : a = b
    · subst h; simp
    · simp [h, Ne.symm h]
end
end TW
set_option Elab.async false
set_option maxRecDepth 100000
set_option maxHeartbeats 4000000
set_option linter.all false
set_option autoImplicit false
/-! TW6: objects that are gone through by their own iter -/
namespace TW
open Pa (rep)
open PaL (repL)
open PySem PySem.Spec PyProof.Rows L2 My
/-- what is gone is gone: no run brings a freed place back -/
def Gone (h h' : Heap) : Prop := h.objs.size ≤ h'.objs.size ∧ ∀ b, b < h.objs.size → h.get? b = none → h'.get? b = none
theorem Gone.refl (h : Heap) : Gone h h := ⟨Nat.le_refl _, fun _ _ e => e⟩
theorem Gone.trans {a b c : Heap} (x : Gone a b) (y : Gone b c) : Gone a c := ⟨Nat.le_trans x.1 y.1, fun d l e => y.2 d (Nat.lt_of_lt_of_le l x.1) (x.2 d l e)⟩
theorem Gone.push (h : Heap) (o : PySem.Obj) : Gone h (h.push o) := by
  refine ⟨?_, fun b l e => ?_⟩
  · show h.objs.size ≤ (h.objs.push o).size
    rw [Array.size_push]; omega
  · rw [Heap.get?_push_ne h b o (Nat.ne_of_lt l)]; exact e
theorem Gone.upd {h : Heap} {a : Addr} {f : PySem.Obj → PySem.Obj} (s : (h.get? a).isSome = true) : Gone h (h.update a f) := by
  refine ⟨?_, fun b l e => ?_⟩
  · show h.objs.size ≤ (h.objs.modify a f).size
    rw [Array.size_modify]; exact Nat.le_refl _
  · have hb : b ≠ a := fun z => by rw [← z, e] at s; cases s
    rw [Heap.get?_update_ne h b a f hb]; exact e
theorem runs_gone {M : Model} {Γ : PySem.Ctx} {p : Pos} {t : Sem PySem.Fin} {fs : List Frame} {s s' : Shared} {e : End} (h : Runs M Γ p t fs s e s') : Gone s.heap s'.heap := by
  induction h with
  | done => exact Gone.refl _
  | raise => exact Gone.refl _
  | yield => exact Gone.refl _
  | update hs _ ih => exact (Gone.upd hs).trans ih
  | alloc _ ih => exact (Gone.push _ _).trans ih
  | again _ _ ih => exact ih
  | rule _ ih => exact ih
  | «at» _ ih => exact ih
  | load _ _ ih => exact ih
  | loadIfAlive _ ih => exact ih
  | point _ ih => exact ih
  | fresh _ ih => exact ih
  | ask _ ih => exact ih
  | choose _ _ ih => exact ih
  | os _ ih => exact ih
  | handled _ ih => exact ih
  | genState _ _ ih => exact ih
  | stack _ ih => exact ih
  | thread _ ih => exact ih
  | newGen _ ih => exact ih
  | call _ _ i1 i2 => exact i1.trans i2
  | callSusp _ ih => exact ih
  | resumeFresh _ _ _ _ i1 i2 => exact i1.trans i2
  | resumeSuspended _ _ _ _ i1 i2 => exact i1.trans i2
  | resumeJustStarted _ _ _ ih => exact ih
  | resumeThrowFresh _ _ ih => exact ih
  | resumeRunning _ _ ih => exact ih
  | resumeFinished _ _ ih => exact ih
  | segRet _ _ i1 i2 => exact i1.trans i2
  | segGen _ _ i1 i2 => exact i1.trans i2
  | segSuspOut _ _ ih => exact ih
  | segSuspGen _ _ _ _ i1 i2 => exact i1.trans i2
theorem codeAny_gone {M : Model} {A : Around} {c : Code} {R : Result → Shared → Prop} {s : Shared} (h : codeAny M A c R s) : codeAny M A c (fun r s' => Gone s.heap s'.heap ∧ R r s') s := fun Γ p e b =>
  let ⟨r, s', x, y⟩ := h Γ p e b
  ⟨r, s', x, runs_gone x, y⟩
/-! ### the iterator of a tuple, told of -/
abbrev tiObj (t : Addr) : PySem.Obj := ⟨.type "tuple_iterator", none, .fields #[.ref t, .int 0 0], #[]⟩
def TiO (t it : Addr) : HO := .ext fun h => h.get? it = some (tiObj t)
section
variable {X : Cx} {pins : List (Addr × PySem.Obj)} {σ : L2.St} {H : Hp} {s : Shared} {it t : Addr}
theorem tiO_ok {P : Program} {w : World} {h : Heap} (e : h.get? it = some (tiObj t)) : ObjOk P w H h it (TiO t it) := by
  refine ⟨e, ⟨_, e⟩, fun _ _ q k => ?_⟩
  exact k _ q
theorem call_iterT : CallR X (.builtin "iter") fun xs H Q => ∃ l zs, xs = [.ref l] ∧ SqT X.K H l zs ∧ ∀ it, H it = none → Q (.ref it) (upd H it (TiO l it)) := by
  intro pins s σ H xs us Q I r ⟨l, zs, e, hq, q⟩
  subst e
  obtain ⟨u, rfl, ru⟩ := vals1 r
  cases ru
  obtain ⟨its, rv, pl, hz⟩ := I.tuple hq
  obtain ⟨o, ho, hc, n, hd⟩ := pl
  refine Calls.call_function_entry (id := "iter") (by decide +kernel) (by decide +kernel) PySem.W.kdk_entry_iter (PySem.W.kdk_args_iter _) (show wpAny _ _ (Builtin.«iter» _) _ _ _ from ?_)
  unfold Builtin.«iter»
  refine wpAny_bind (m := someArgs "iter" 1 2 _) (wpAny_of_eq (a := ([Value.ref l] : List Value)) (by first | rfl | kernel_rfl!) (show wpAny _ _ (pyIter (.ref l) >>= _) _ _ _ from ?_))
  refine wpAny_bind (wpAny_pyIter_tuple ⟨o, ho, hc, n, hd⟩ (wpAny_pure ⟨_, rfl, ?_⟩))
  exact ⟨.ref s.heap.objs.size, _, I.laid (t' := s.toks) (fun _ _ e => Heap.get?_push_of_some _ e) (Nat.le_refl _) (tiO_ok (Heap.get?_push_size _ rfl)), rfl, q _ (I.hok.fresh (Nat.le_refl _))⟩
end
/-- going through an object whose __iter__ gives a tuple's iterator -/
def iOwn (K : PySem.W.Frag) (C : Addr) (sp : Sp) (te : TE) : TI := fun σ H R => te σ H fun v H1 => ∃ a dx fs, v = .ref a ∧ H1 a = some (.ins C dx fs) ∧
  sp [.ref a] H1 (fun v H2 => ∃ it t, v = .ref it ∧ H1 it = none ∧ H2 it = some (TiO t it) ∧ R (Itt K t) (ItX.dropH H2 it)) E0
theorem pi_own {X : Cx} {tg e : Expr} {te : TE} {C fi : Addr} {fdI : FuncData} {ps : List Str} {sp : Sp} {n : Nat} (hs : PySem.W.findIn X.K (.ref C) "__iter__" = some (some (.ref fi))) (hf : PySem.W.isFn X.K (.ref fi) = true)
    (FI : FnOk X.prog X.w X.K X.mg X.base CX0 n fi fdI ps sp) (bI : Binds X.K fdI ps []) (hr : Room n X.A) (he : PE X e te) : PI X tg e (iOwn X.K C sp te) := by
  refine ⟨fun pins s σ H R I h => ?_⟩
  refine thn (he.run pins s σ H _ I h) fun u s1 ⟨v, H1, I1, r1, a, dx, fs, ev, ha, q⟩ => ?_
  subst ev
  cases r1
  obtain ⟨mA, J, _⟩ := ins_get I1.hok ha
  obtain ⟨od, J, _⟩ := J.look
  obtain ⟨m0, hF⟩ := I1.fr
  refine PySem.W.owit_iter hF I1.ok.mod.kin J hs hf ?_
  have hl := FI.len _ _ _ _ q
  have r2 : Vals [V.ref a] [Value.ref a] := .cons rfl .nil
  have hb := bI s1 [.ref a] I1.kIn (by simpa using hl)
  refine wpAny_call (codeAny_mono (codeAny_gone (FI.run X.A X.stack s1 H1 ⟨[.ref a], []⟩ [.ref a] [.ref a] _ E0 hr I1.env0 (by simpa using hb) r2 q)) fun r s' hq => ?_)
  obtain ⟨gn, hq⟩ := hq
  cases r with
  | error e => exact pass0 pins σ H1 s1 e s' I1 hq
  | ok fl =>
    cases fl with
    | next => exact False.elim hq
    | brk => exact False.elim hq
    | cont => exact False.elim hq
    | ret u =>
      obtain ⟨v2, H2, os, bare, un, hok, rv, it, t, ev, hn, hi, hR⟩ := hq
      subst ev
      cases rv
      obtain ⟨v3, H3, I3, _, ev, eH⟩ := I1.after (Q := fun v H' => v = V.ref it ∧ H' = H2) ⟨.ref it, H2, os, bare, un, hok, rfl, rfl, rfl⟩
      subst eH
      have eo : s'.heap.get? it = some (tiObj t) := (I3.hok it _ hi).1
      have st : s'.heap.IsTupleIter it t 0 := ⟨_, eo, rfl, rfl⟩
      have hlt : s1.heap.objs.size ≤ it := by
        refine Nat.le_of_not_lt fun z => ?_
        cases h0 : s1.heap.get? it with
        | none => rw [gn.2 it z h0] at eo; cases eo
        | some o => rw [un.free it o h0 hn (by simp)] at hi; cases hi
      refine wpAny_specialOf (T := "tuple_iterator") ⟨_, eo, rfl⟩ PySem.F.slot_tuple_iterator_next.lookup ?_
      refine ⟨it, [it], _, Itt X.K t, ItX.dropH H3 it, rfl, ItX.inv_drop I3 hi, turn_tuple t it, st, fun b hb => ?_, hR⟩
      have e : b = it := by simpa using hb
      subst e
      exact I1.fpOk hlt ItX.dropH_same
/-- the promise of an __iter__ that gives its tuple's iterator -/
def SpIt {α β : Type} [PyO α] [Py β] (G : Gx) (get : α → Tup β) : Sp := fun vs H Q _ => ∃ (A : Av) (o : α) (a : Addr), vs = [.ref a] ∧ rep G A H (.ref a) o ∧ ∀ it tv, H it = none → rep G A H (.ref tv) (get o) → Q (.ref it) (upd H it (TiO tv it))
section
variable {Γ : Cxt} {te : TE} {δ : List Sl} {α β : Type}
theorem ei_own [PyO α] [Py β] {g : TG} {bd : β → List Sl → List Sl} {js : List Nat} {m : W α} (get : α → Tup β) (h : EvT Γ te δ m) (hg : EvG Γ g bd js δ.length) :
    EvI Γ (iOwn Γ.G.K (Γ.G.cls (Obj.nm α)) (SpIt Γ.G get) te) g δ (m >>= fun o => pure (get o).l) bd js := fun σ A H R I q => by
  refine h σ A H _ I (m.mono (fun o q v A1 H1 s1 r1 => ?_) (fun _ h => h) q)
  have r2 := r1
  obtain ⟨a, dx, fs, rfl, ⟨_, hh⟩, _⟩ := PyO.is.mp r1
  refine ⟨a, dx, fs, rfl, hh, A1, o, a, rfl, r2, fun it tv hn rt => ⟨it, tv, rfl, hn, upd_same, ?_⟩⟩
  rw [ItX.dropH_upd hn]
  obtain ⟨p, vs, e, h, k⟩ := rt
  cases e
  refine q _ A1 H1 s1 ⟨fun A2 H2 st mv => ?_, fun i a e A2 H2 st mv => ?_⟩
  · exact ⟨vs, (h.mv mv).sq, by rw [k.len]; exact Nat.le_refl _⟩
  · obtain ⟨v, e1, r⟩ := (k.imp fun _ _ r => Py.mv r mv).get i e
    have h1 := (h.mv mv).sq
    refine ⟨⟨vs, v, h1, e1⟩, fun x H' y σ2 δ2 hn I2 Q q => ?_⟩
    obtain ⟨rfl, y⟩ := y
    have := y vs h1
    rw [e1] at this; cases this
    exact hg.2 _ a A2 H' σ2 δ2 hn I2 r Q fun l el I3 => q l A2 H' el (St.refl I2.dom) I3
end
/-- def __iter__(self): return iter(self.f) -/
theorem iter_ok {α β : Type} [PyO α] [Py β] {P : Program} {w : World} {K : PySem.W.Frag} {mg : Str → Option Value} {base : Heap} {cls : Nat → Addr} {qual : Str} {st : Stmt} {f : Addr} {fd : FuncData} {fld : Str} (get : α → Tup β)
    (F : Fun K "__iter__" qual st f fd) (S : FnScope ["self"] ["self"] (defScope st)) (c : Cls K (cls (Obj.nm α))) (n : NoAttr K (cls (Obj.nm α)) fld) (hl : ∀ o : α, look fld (Obj.fds o) = some ⟨fld, Tup β, inferInstance, get o⟩)
    (body : ∀ (cdv : Value) (A : Around) (outer : List Env) (s : Shared) (H : Hp) (E : XK), PSs (cxOf CX0 P w K mg base ["self"] qual (defScope st) f cdv A outer s H E).nox (defBody st)
      (tRet (tCB (fun xs H Q => ∃ l zs, xs = [.ref l] ∧ SqT K H l zs ∧ ∀ it, H it = none → Q (.ref it) (upd H it (TiO l it))) (tCons (tFld K (tVar 0) fld) tNil)))) :
    FnOk P w K mg base CX0 1 f fd ["self"] (SpIt ⟨K, cls⟩ get) := by
  refine F.ok S (fun vs H Q E h => ?_) (fun cdv A outer s H vs Q E hr h => ?_)
  · obtain ⟨A, o, a, rfl, _⟩ := h
    rfl
  · obtain ⟨A0, o, a, rfl, r, q⟩ := h
    refine ⟨_, body cdv A outer s H E, ?_⟩
    obtain ⟨a', dx, ws, e, ⟨_, hh⟩, k⟩ := PyO.is.mp r
    cases e
    have := look_of (f := fld) k
    rw [hl o] at this
    obtain ⟨u, e, r2⟩ := this
    have r3 := r2
    obtain ⟨p, vs, rfl, h, _⟩ := r2
    exact ⟨.ref a, rfl, a, _, dx, ws, _, rfl, hh, c, n, e, p, vs, rfl, h.sq, fun it hn => q it p hn r3⟩
end TW
set_option Elab.async false
set_option maxRecDepth 100000
set_option maxHeartbeats 4000000
set_option linter.all false
set_option autoImplicit false
/-! TW7: enumerate over tuples and over objects -/
namespace TW
open Pa (rep)
open PaL (repL)
open PySem PySem.Spec PyProof.Rows L2 My
section
variable {prog : Program} {w : World} {A : Around} {E : Value → Shared → Prop} {s : Shared}
abbrev enObj (i : Value) : PySem.Obj := ⟨.type "enumerate", none, .fields #[.none, .bool false, i, rawInt 0, .none, .none], #[]⟩
theorem code_enum_new {v : Value} {Q₁ : Value → Shared → Prop} (h : wpAny (model prog w) A.in1 (pyIter v) (fun i s1 => Q₁ (.ref s1.heap.objs.size) { s1 with heap := s1.heap.push (enObj i) }) E s) :
    codeAny (model prog w) A (.call (.builtin "enumerate.__new__") ⟨[.type "enumerate", v], []⟩) (wants Q₁ E) s := by
  refine codeAny_of_tree (show wpAny _ A.in1 (do checkBuiltinCall "enumerate.__new__" ⟨[.type "enumerate", v], []⟩; again (.builtin "enumerate.__new__" ⟨[.type "enumerate", v], []⟩)) _ _ s from ?_)
  refine wpAny_bind (wpAny_of_eq (F.newCall_enumerate_1 v) (wpAny_pure ⟨?q, codeAny_builtin_stack F.entry_enumerate_new rfl fun p st => ?_⟩))
  case q => exact Code.quiet_builtin _ (by decide +kernel)
  rw [show (A.under (Code.builtin "enumerate.__new__" ⟨[Value.type "enumerate", v], []⟩)) = A.in1 from Around.under_plain rfl rfl]
  have go : wpAny (model prog w) A.in1 (do let i ← pyIter v; let r ← Builtin.SmallTypes.newRecord (.type "enumerate") (Builtin.SmallTypes.ownedTupleFields ++ [i, rawInt 0, .none, .none]); ret r)
      (fun fin s' => match fin with | .done f => wants Q₁ E (.ok f) s' | .again c' => c'.quiet = true ∧ codeAny (model prog w) A c' (wants Q₁ E) s') (fun e s' => wants Q₁ E (.error e) s') s := by
    refine wpAny_bind (wpAny_mono h (fun i s1 h1 => ?_) fun _ _ z => z)
    refine wpAny_bind ?_
    show wpAny _ _ (newFields "enumerate" [.none, .bool false, i, rawInt 0, .none, .none]) _ _ _
    refine wpAny_newObj_type (wpAny_pure h1)
  have key : ∀ (f : Bool → Sem PySem.Fin) (P : Sem PySem.Fin → Prop), (∀ b, P (f b)) → ∀ b, P (f b) := fun f P hf b => hf b
  refine key _ (fun m => wpAny (model prog w) A.in1 m _ _ s) (fun b => ?_) _
  cases b
  · exact go
  · exact go
theorem call_enum {v : Value} {Q : Value → Shared → Prop} (h : wpAny (model prog w) A.in1.in1 (pyIter v) (fun i s1 => Q (.ref s1.heap.objs.size) { s1 with heap := s1.heap.push (enObj i) }) E s) : wpAny (model prog w) A (call (.type "enumerate") [v]) Q E s := by
  refine callType_codes (Q₁ := fun obj s₁ => s₁.TypeIs obj "enumerate" ∧ Q obj s₁) F.called_enumerate (F.typeCall_enumerate_1 _) F.entry_object_init (code_enum_new (wpAny_mono h (fun i s1 q => ⟨⟨_, Heap.get?_push_size _ rfl, rfl⟩, q⟩) fun _ _ z => z)) fun obj s₁ ⟨t, q⟩ => ?_
  refine ⟨t, F.args_object_init_2 obj _, ?_⟩
  exact object_init_meets F.called_enumerate.init.lookup F.called_enumerate.made (by decide) prog w A.in1 _ s₁ ⟨t, rfl, q⟩
end
/-- a tuple's items with their places -/
def IteT (K : PySem.W.Frag) (a : Addr) : It :=
  ⟨fun i H => ∃ (xs : List V) (x : V), SqT K H a xs ∧ xs[i]? = some x, fun i H v H' => ∃ T x, v = .ref T ∧ H T = none ∧ H' = upd H T (.tup [.int (i : Nat), x]) ∧ ∀ xs, SqT K H a xs → xs[i]? = some x, fun i H => ∃ xs : List V, SqT K H a xs ∧ xs.length = i⟩
theorem apart_en {h : Heap} {e it a : Addr} {i : Nat} {old : Value} {items : Array Value} (he : IsEnum h e it i old) (hi : h.IsTupleIter it a i) (ht : h.IsTuple a items) : e ≠ it ∧ a ≠ it ∧ e ≠ a := by
  obtain ⟨o, ho, hc, _⟩ := hi
  obtain ⟨o', ho', hc', _⟩ := ht
  refine ⟨fun z => ?_, fun z => ?_, fun z => ?_⟩
  · have he : h.get? e = _ := he
    rw [z, ho] at he
    cases he
    exact absurd (Value.type.inj hc) (by decide)
  · rw [z, ho] at ho'
    cases ho'
    rw [hc] at hc'
    exact absurd (Value.type.inj hc') (by decide)
  · have he : h.get? e = _ := he
    rw [z, ho'] at he
    cases he
    exact absurd (Value.type.inj hc') (by decide)
theorem turn_enumT {P : Program} {w : World} {K : PySem.W.Frag} {elts : List Expr} {kk : Nat} {tpos : Pos} (a e it : Addr) :
    Turn P w K (.Tuple elts kk tpos) (IteT K a) [e, it] e (fun i h => (∃ old, IsEnum h e it ((i : Nat) : Int) old) ∧ h.IsTupleIter it a i) where
  mem := List.mem_cons_self
  obj := fun i h st b hb => by
    obtain ⟨⟨old, he⟩, o, ho, hc, hd⟩ := st
    rcases List.mem_cons.mp hb with z | z
    · exact ⟨_, (congrArg h.get? z).trans he, fun v q => nomatch q⟩
    · rw [List.mem_singleton.mp z]
      exact ⟨o, ho, fun v q => by rw [hd] at q; cases q⟩
  keep := fun i h h' st k => by
    obtain ⟨⟨old, he⟩, o, ho, r⟩ := st
    exact ⟨⟨old, k e List.mem_cons_self _ he⟩, o, k it (by simp) o ho, r⟩
  item := by
    rintro X rfl rfl rfl hc i pins s σ H E I hf ⟨⟨old, he⟩, hit⟩ ⟨xs, x, hq, hx⟩
    obtain ⟨its, rv, tp, hz⟩ := I.tuple hq
    obtain ⟨u, hu, ru⟩ := rv.get hx
    have ht : s.heap.IsTuple a its.toArray := tp
    obtain ⟨n1, n2, n3⟩ := apart_en he hit ht
    have hel : e < s.heap.objs.size := Heap.lt_size he
    have hil : it < s.heap.objs.size := let ⟨_, z, _⟩ := hit; Heap.lt_size z
    have hlt : i < its.toArray.size := by
      rw [List.size_toArray]
      exact (List.getElem?_eq_some_iff.mp hu).1
    refine wpAny_pyNext_enum_itemD (Draws.tuple (by exact I.ok.hd hc) it a n2 its.toArray) he ⟨hit, ht⟩ hlt n1 (by simp [n1, n3]) fun y h' tk hy ho st' hT hsz hk => ?_
    have ey : y = u := by
      have hy : its.toArray[i]? = some y := hy
      rw [List.getElem?_toArray, hu] at hy
      exact (Option.some.inj hy).symm
    subst ey
    refine ⟨_, rfl, wpAny_letOwnedTupleGo_enum ho fun h2 he2 sb => ?_⟩
    have hT2 : h2.get? s.heap.objs.size = _ := (sb.2 _ (Nat.ne_of_gt hel)).trans hT
    have new : ObjOk X.prog X.w (upd H s.heap.objs.size (.tup [.int (i : Nat), x])) h2 s.heap.objs.size (.tup [.int (i : Nat), x]) :=
      ⟨by show 2 ≤ sizeLine; decide, [.int i tk, y], .cons ⟨_, rfl⟩ (.cons ru .nil), ⟨_, hT2, rfl, _, rfl⟩⟩
    have I1 := I.turnedNew (h' := h2) (t' := tk + 1) (ch := [e, it]) (fun b o nb z => by
      have m1 : b ≠ e := fun z => nb (z ▸ List.mem_cons_self)
      have m2 : b ≠ it := fun z => nb (by simp [z])
      exact (sb.2 b m1).trans (hk b o m1 m2 z)) hf (Nat.le_refl _) new
    refine ⟨.ref s.heap.objs.size, _, I1, rfl, ⟨_, x, rfl, I.hok.fresh (Nat.le_refl _), rfl, fun ys hy => by rw [I.tuple_inj hy hq]; exact hx⟩, ⟨⟨y, ?_⟩, ?_⟩, fun b hb => ?_⟩
    · rw [show ((i + 1 : Nat) : Int) = (i : Int) + 1 by omega]
      exact he2
    · obtain ⟨o, z, r⟩ := st'.1
      exact ⟨o, (sb.2 it (Ne.symm n1)).trans z, r⟩
    · have lt : b < s.heap.objs.size := by
        rcases List.mem_cons.mp hb with z | z
        · rw [z]; exact hel
        · rw [List.mem_singleton.mp z]; exact hil
      exact (upd_ne (Nat.ne_of_lt lt)).trans (hf b hb).1
  done := by
    rintro X rfl rfl rfl hc i pins s σ H E I hf ⟨⟨old, he⟩, hit⟩ ⟨xs, hq, hx⟩
    obtain ⟨its, rv, tp, hz⟩ := I.tuple hq
    have ht : s.heap.IsTuple a its.toArray := tp
    obtain ⟨n1, n2, n3⟩ := apart_en he hit ht
    obtain ⟨f0, f1, f2, f3, f4, f5⟩ := hf it (by simp)
    have hn : i = its.toArray.size := by
      rw [List.size_toArray, ← hx]
      exact rv.length
    refine wpAny_pyNext_enum_endD (Draws.tuple (by exact I.ok.hd hc) it a n2 its.toArray) he ⟨hn ▸ hit, ht⟩ fun h' eb => ⟨rfl, I.turned (t' := s.toks) (fun b o hb q => eb b o hb q) f0 f1 f3 f4 f5⟩
  self := fun A i s Q E st h => let ⟨⟨_, he⟩, _⟩ := st; wpAny_pyIter_enum he h
def iEnumT (K : PySem.W.Frag) (ta : TA) : TI := fun σ H R => ta σ H fun vs H1 => ∃ a xs, vs = [.ref a] ∧ SqT K H1 a xs ∧ R (IteT K a) H1
def iEnumO (K : PySem.W.Frag) (C : Addr) (sp : Sp) (ta : TA) : TI := fun σ H R => ta σ H fun vs H1 => ∃ a dx fs, vs = [.ref a] ∧ H1 a = some (.ins C dx fs) ∧
  sp [.ref a] H1 (fun v H2 => ∃ it t, v = .ref it ∧ H1 it = none ∧ H2 it = some (TiO t it) ∧ R (IteT K t) (ItX.dropH H2 it)) E0
section
variable {X : Cx} {e : Expr} {ta : TA} {p pos tpos : Pos} {elts : List Expr} {kk : Nat}
/-- the end of both: the iterator it stands, enumerate's object is laid -/
theorem enum_end {pins : List (Addr × PySem.Obj)} {σ : L2.St} {H0 H : Hp} {s0 s : Shared} {it t : Addr} {R : It → Hp → Prop} (I0 : Inv X pins σ H0 s0) (I : Inv X pins σ H s) (hz : s0.heap.objs.size ≤ it) (hz2 : s0.heap.objs.size ≤ s.heap.objs.size) (hi : H it = none)
    (st : s.heap.IsTupleIter it t 0) (q : R (IteT X.K t) H) :
    wpAny (model X.prog X.w) X.A (pyIter (.ref s.heap.objs.size)) (PIE X pins σ (.Tuple elts kk tpos) R) X.xe { s with heap := s.heap.push (enObj (.ref it)) } := by
  have he : IsEnum (s.heap.push (enObj (.ref it))) s.heap.objs.size it 0 .none := Heap.get?_push_size _ rfl
  refine wpAny_pyIter_enum he ?_
  have I2 := I.kept (h' := s.heap.push (enObj (.ref it))) (t' := s.toks) fun b o z => Heap.get?_push_of_some _ z
  obtain ⟨o, ho, r⟩ := st
  refine ⟨s.heap.objs.size, [s.heap.objs.size, it], _, _, H, rfl, I2, turn_enumT t s.heap.objs.size it, ⟨⟨.none, he⟩, o, Heap.get?_push_of_some _ ho, r⟩, fun b hb => ?_, q⟩
  rcases List.mem_cons.mp hb with z | z
  · rw [z]; exact I0.fpOk hz2 (I.hok.fresh (Nat.le_refl _))
  · rw [List.mem_singleton.mp z]; exact I0.fpOk hz hi
theorem pi_enumT (hg : Gl X "enumerate") (hm : X.mg "enumerate" = none) (ha : PA X [e] ta) (hs : starEach [e] X.env = [(false, eval e X.env)] := by rfl) :
    PI X (.Tuple elts kk tpos) (.Call (.Name "enumerate" p) [e] [] pos) (iEnumT X.K ta) := by
  refine ⟨fun pins s σ H R I h => Call_ (ld_blt I hg hm boot_enumerate (PyProof.Rows.callWith_type1 (thn (ha.run pos pins s σ H _ I h) fun us s1 ⟨vs, H1, I1, r1, a, xs, ex, hq, q⟩ => ?_) hs rfl))⟩
  subst ex
  obtain ⟨u, rfl, ru⟩ := vals1 r1
  cases ru
  obtain ⟨its, rv, tp, _⟩ := I1.tuple hq
  have ht : s1.heap.IsTuple a its.toArray := tp
  refine call_enum (wpAny_pyIter_tuple ht ?_)
  have I2 := I1.kept (h' := s1.heap.push (tiObj a)) (t' := s1.toks) fun b o z => Heap.get?_push_of_some _ z
  have z1 : (s1.heap.push (tiObj a)).objs.size = s1.heap.objs.size + 1 := Heap.size_push ..
  exact enum_end I1 I2 (Nat.le_refl _) (by rw [z1]; exact Nat.le_succ _) (I1.hok.fresh (Nat.le_refl _)) ⟨_, Heap.get?_push_size _ rfl, rfl, rfl⟩ q
theorem pi_enumO {C fi : Addr} {fdI : FuncData} {ps : List Str} {sp : Sp} {n : Nat} (hs : PySem.W.findIn X.K (.ref C) "__iter__" = some (some (.ref fi))) (hf : PySem.W.isFn X.K (.ref fi) = true)
    (FI : FnOk X.prog X.w X.K X.mg X.base CX0 n fi fdI ps sp) (bI : Binds X.K fdI ps []) (hr : Room (n + 2) X.A) (hg : Gl X "enumerate") (hm : X.mg "enumerate" = none) (ha : PA X [e] ta) (hst : starEach [e] X.env = [(false, eval e X.env)] := by rfl) :
    PI X (.Tuple elts kk tpos) (.Call (.Name "enumerate" p) [e] [] pos) (iEnumO X.K C sp ta) := by
  refine ⟨fun pins s σ H R I h => Call_ (ld_blt I hg hm boot_enumerate (PyProof.Rows.callWith_type1 (thn (ha.run pos pins s σ H _ I h) fun us s1 ⟨vs, H1, I1, r1, a, dx, fs, ex, ha, q⟩ => ?_) hst rfl))⟩
  subst ex
  obtain ⟨u, rfl, ru⟩ := vals1 r1
  cases ru
  obtain ⟨mA, J, _⟩ := ins_get I1.hok ha
  obtain ⟨od, J, _⟩ := J.look
  obtain ⟨m0, hF⟩ := I1.fr
  refine call_enum (PySem.W.owit_iter hF I1.ok.mod.kin J hs hf ?_)
  have e0 : Env0 X.prog X.w X.K X.mg X.base X.A.in1.in1 X.stack s1 H1 := by
    have e := I1.env0
    exact ⟨e.frames, e.mod, e.bs, e.bsz, e.funs, e.frf, e.hok, e.bare⟩
  have hl := FI.len _ _ _ _ q
  have r2 : Vals [V.ref a] [Value.ref a] := .cons rfl .nil
  have hb := bI s1 [.ref a] I1.kIn (by simpa using hl)
  refine wpAny_call (codeAny_mono (codeAny_gone (FI.run X.A.in1.in1 X.stack s1 H1 ⟨[.ref a], []⟩ [.ref a] [.ref a] _ E0 hr.in1.in1 e0 (by simpa using hb) r2 q)) fun r s' hq => ?_)
  obtain ⟨gn, hq⟩ := hq
  cases r with
  | error e => exact pass0 pins σ H1 s1 e s' I1 hq
  | ok fl =>
    cases fl with
    | next => exact False.elim hq
    | brk => exact False.elim hq
    | cont => exact False.elim hq
    | ret u =>
      obtain ⟨v2, H2, os, bare, un, hok, rv, it, t, ev, hn, hi, hR⟩ := hq
      subst ev
      cases rv
      obtain ⟨v3, H3, I3, _, ev, eH⟩ := I1.after (Q := fun v H' => v = V.ref it ∧ H' = H2) ⟨.ref it, H2, os, bare, un, hok, rfl, rfl, rfl⟩
      subst eH
      have eo : s'.heap.get? it = some (tiObj t) := (I3.hok it _ hi).1
      have hlt : s1.heap.objs.size ≤ it := by
        refine Nat.le_of_not_lt fun z => ?_
        cases h0 : s1.heap.get? it with
        | none => rw [gn.2 it z h0] at eo; cases eo
        | some o => rw [un.free it o h0 hn (by simp)] at hi; cases hi
      refine wpAny_specialOf (T := "tuple_iterator") ⟨_, eo, rfl⟩ PySem.F.slot_tuple_iterator_next.lookup ?_
      exact enum_end I1 (ItX.inv_drop I3 hi) hlt gn.1 ItX.dropH_same ⟨_, eo, rfl, rfl⟩ hR
end
end TW
set_option Elab.async false
set_option maxRecDepth 100000
set_option maxHeartbeats 4000000
set_option linter.all false
set_option autoImplicit false
/-! TW8: walks with places, min with a default -/
namespace TW
open Pa (rep)
open PaL (repL)
open PySem PySem.Spec PyProof.Rows L2 My
open PySem.W (minOf HoldAll min_list_datum_default DatumOrd)
section
variable {Γ : Cxt} {te : TE} {δ : List Sl} {α β : Type}
theorem okT [Py β] {g : TG} {bd : T2 Int β → List Sl → List Sl} {js : List Nat} {A1 : Av} {H1 : Hp} {t : Addr} {vs : List V} {xs : List β} {n : Nat} (k : ∀ A H, St Γ.A0 Γ.H0 A H → Mv A1 H1 A H → SqT Γ.G.K H t vs ∧ All2 (rep Γ.G A H) vs xs) (hg : EvG Γ g bd js n) :
    ItOk Γ (IteT Γ.G.K t) g (enumL xs) bd js n A1 H1 := by
  refine ⟨fun A2 H2 st mv => ?_, fun i a e A2 H2 st mv => ?_⟩
  · obtain ⟨h1, h2⟩ := k A2 H2 st mv
    exact ⟨vs, h1, by rw [h2.len, enumL_len]⟩
  · obtain ⟨h1, h2⟩ := k A2 H2 st mv
    obtain ⟨ea, eb⟩ := enumL_get e
    obtain ⟨v, e1, r⟩ := h2.get i eb
    refine ⟨⟨vs, v, h1, e1⟩, fun x H' y σ2 δ2 hn I2 Q q => ?_⟩
    obtain ⟨T, x', rfl, nT, rfl, y⟩ := y
    have z := y vs h1
    rw [e1] at z
    cases z
    have s3 : St A2 H2 A2 (upd H2 T (.tup [.int (i : Nat), v])) := St.new I2.dom nT
    refine hg.2 _ a A2 _ σ2 δ2 hn (I2.step s3) ⟨T, _, _, rfl, .inl ⟨I2.dom.nm nT, upd_same⟩, (show V.int _ = V.int _ by rw [ea]), Pa.st r I2.dom s3⟩ Q fun l el I3 => q l A2 _ el s3 I3
theorem ei_enumT [Py α] {g : TG} {bd : T2 Int α → List Sl → List Sl} {js : List Nat} {m : W (List α)} (h : EvST Γ te δ m) (hg : EvG Γ g bd js δ.length) : EvI Γ (iEnumT Γ.G.K (tCons te tNil)) g δ (m >>= fun xs => pure (enumL xs)) bd js := fun σ A H R I q => by
  refine h σ A H _ I (m.mono (fun xs q p vs A1 H1 s1 k => ?_) (fun _ h => h) q)
  exact ⟨p, vs, rfl, (k A1 H1 (I.st.trans s1) (Mv.refl s1.d)).1, q _ A1 H1 s1 (okT k hg)⟩
theorem ei_enumO [PyO α] [Py β] {g : TG} {bd : T2 Int β → List Sl → List Sl} {js : List Nat} {m : W α} (get : α → Tup β) (h : EvT Γ te δ m) (hg : EvG Γ g bd js δ.length) :
    EvI Γ (iEnumO Γ.G.K (Γ.G.cls (Obj.nm α)) (SpIt Γ.G get) (tCons te tNil)) g δ (m >>= fun o => pure (enumL (get o).l)) bd js := fun σ A H R I q => by
  refine h σ A H _ I (m.mono (fun o q v A1 H1 s1 r1 => ?_) (fun _ h => h) q)
  have r2 := r1
  obtain ⟨a, dx, fs, rfl, ⟨_, hh⟩, _⟩ := PyO.is.mp r1
  refine ⟨a, dx, fs, rfl, hh, A1, o, a, rfl, r2, fun it tv hn rt => ⟨it, tv, rfl, hn, upd_same, ?_⟩⟩
  rw [ItX.dropH_upd hn]
  obtain ⟨p, vs, e, h, k⟩ := rt
  cases e
  exact q _ A1 H1 s1 (okT (fun A2 H2 _ mv => ⟨(h.mv mv).sq, k.imp fun _ _ r => Py.mv r mv⟩) hg)
end
/-! ### min(xs, default=d) of a list of whole numbers -/
def rMinD (K : PySem.W.Frag) : List V → List V → Hp → VK → Prop := fun vs zs H Q => ∃ (a : Addr) (ns : List Int) (d : V), vs = [.ref a] ∧ zs = [d] ∧ SqL K H a (ns.map V.int) ∧ (ns = [] → Q d H) ∧ (ns ≠ [] → Q (.int (minL ns)) H)
theorem minOf_spec : ∀ (xs : List Int) (x : Int), minOf x xs ∈ x :: xs ∧ ∀ y ∈ x :: xs, minOf x xs ≤ y
  | [], x => ⟨List.mem_cons_self, fun y h => by rw [List.mem_singleton.mp h]; exact Int.le_refl _⟩
  | z :: xs, x => by
    have e : minOf x (z :: xs) = minOf (if DatumOrd.lt z x = true then z else x) xs := rfl
    have l : DatumOrd.lt z x = decide (z < x) := rfl
    rw [e, l]
    by_cases h : z < x
    · rw [if_pos (decide_eq_true h)]
      obtain ⟨m1, m2⟩ := minOf_spec xs z
      refine ⟨List.mem_cons_of_mem _ m1, fun y hy => ?_⟩
      rcases List.mem_cons.mp hy with rfl | hy
      · exact Int.le_trans (m2 z List.mem_cons_self) (Int.le_of_lt h)
      · exact m2 y hy
    · rw [if_neg (by simpa using h)]
      obtain ⟨m1, m2⟩ := minOf_spec xs x
      refine ⟨?_, fun y hy => ?_⟩
      · rcases List.mem_cons.mp m1 with m1 | m1
        · rw [m1]; exact List.mem_cons_self
        · exact List.mem_cons_of_mem _ (List.mem_cons_of_mem _ m1)
      · rcases List.mem_cons.mp hy with rfl | hy
        · exact m2 y List.mem_cons_self
        · rcases List.mem_cons.mp hy with rfl | hy
          · exact Int.le_trans (m2 x List.mem_cons_self) (Int.not_lt.mp h)
          · exact m2 y (List.mem_cons_of_mem _ hy)
theorem cr_minD {X : Cx} (hc : X.calm = true) (hu : X.A.units + 64 < cLine) : CallRK X (.builtin "min") [Str.ofString "default"] (rMinD X.K) := by
  intro pins s σ H vs zs us ws Q I r rz ⟨a, ns, d, e1, e2, hs, q0, q1⟩
  subst e1 e2
  obtain ⟨its, rv, hl, _⟩ := I.list hs
  obtain ⟨w1, rfl, rd⟩ := vals1 rz
  rw [Vals.ref1 r]
  have hh : HoldAll s.heap its.toArray.toList ns := HoldAll.of_ints (by simpa using rv.ints)
  refine min_list_datum_default (I.ok.hd hc) hl.isList hh (by show X.A.units + 1 + 0 < cLine; omega) (fun e h' tk k => ?_) fun y ys i v h' tk e hi hv k => ?_
  · exact ⟨d, H, I.kept k, rd, q0 e⟩
  · subst e
    obtain ⟨_, hv⟩ := hv
    have ev : ∃ t, v = .int (minOf y ys) t := by
      cases hv
      exact ⟨_, rfl⟩
    obtain ⟨t, rfl⟩ := ev
    obtain ⟨m1, m2⟩ := minOf_spec ys y
    have em : minOf y ys = minL (y :: ys) := Int.le_antisymm (m2 _ (minL_mem (by simp))) (minL_le m1)
    exact ⟨.int (minL (y :: ys)), H, I.kept k, ⟨t, by rw [em]⟩, q1 (by simp)⟩
end TW
set_option Elab.async false
set_option maxRecDepth 100000
set_option maxHeartbeats 4000000
set_option linter.all false
set_option autoImplicit false
/-! TW9: min with a default, sets of whole numbers -/
namespace TW
open Pa (rep)
open PaL (repL)
open PySem PySem.Spec PyProof.Rows L2 My
section
variable {Γ : Cxt} {te tl : TE} {δ : List Sl} {α β : Type}
def minO (xs : List Int) : Option Int := if xs = [] then none else some (minL xs)
/-- min(xs, default=None) -/
theorem ev_minD {m : W (Cn (Bor Int) Nl)} {n : W (Cn Unit Nl)} {ta tk : TA} (h : EvA Γ ta δ m) (hk : EvA Γ tk δ n) : EvT Γ (tCKw (rMinD Γ.G.K) ta tk) δ (m >>= fun t => n >>= fun _ => (pure (minO t.a.l) : W (Option Int))) := fun σ A H Q I q => by
  refine h σ A H _ I (m.mono (fun t q vs A1 H1 s1 r1 => ?_) (fun _ h => h) q)
  refine hk σ A1 H1 _ (I.step s1) (n.mono (fun u q ws A2 H2 s2 r2 => ?_) (fun _ h => h) q)
  obtain ⟨v, _, rfl, rv, e⟩ := r1
  cases e
  obtain ⟨d, _, rfl, rd, e⟩ := r2
  cases e
  have rv2 : rep Γ.G A2 H2 v t.a := Pa.st rv s1.d s2
  obtain ⟨p, vs, rfl, h, k⟩ := bor_sq rv2
  rw [ints_of k] at h
  have ed : d = V.non := rd
  subst ed
  have q' := q
  refine ⟨p, t.a.l, .non, rfl, rfl, h, fun e => ?_, fun e => ?_⟩
  · exact q' .non A2 H2 (s1.trans s2) (by show rep _ _ _ _ (minO t.a.l); unfold minO; rw [if_pos e]; rfl)
  · refine q' (.int (minL t.a.l)) A2 H2 (s1.trans s2) ?_
    show rep _ _ _ _ (minO t.a.l)
    unfold minO
    rw [if_neg e]
    exact ⟨nofun, rfl⟩
end
/-! ### set(xs) of whole numbers -/
/-- the numbers without repeats, in the order of their first coming -/
def ddup (ns : List Int) : List Int := ns.foldl step_dedup []
theorem ddup_app (ns : List Int) (x : Int) : ddup (ns ++ [x]) = step_dedup (ddup ns) x := by unfold ddup; rw [List.foldl_append]; rfl
theorem ddup_first (ns : List Int) : firstMet (fun i => ns.getD i 0) ns.length = ddup ns := by
  unfold firstMet ddup
  congr 1
  refine List.ext_getElem (by simp) fun i h1 h2 => ?_
  simp at h1
  simp [h1]
theorem mem_ddup (ns : List Int) (k : Int) : k ∈ ddup ns ↔ k ∈ ns := by
  have h := firstMet_any (fun i => ns.getD i 0) ns.length k
  rw [ddup_first] at h
  have e : (List.range ns.length).map (fun i => ns.getD i 0) = ns := List.ext_getElem (by simp) fun i h1 h2 => by simp at h1; simp [h1]
  rw [e] at h
  have z : ∀ l : List Int, l.any (· == k) = true ↔ k ∈ l := fun l => by simp
  rw [← z, ← z, h]
theorem nodup_step {xs : List Int} {x : Int} (h : xs.Nodup) : (step_dedup xs x).Nodup := by
  unfold step_dedup
  split
  · exact h
  · rename_i n
    refine List.nodup_append.mpr ⟨h, by simp, fun a ha b hb e => n ?_⟩
    rw [List.mem_singleton.mp hb] at e
    subst e
    simpa using ha
theorem nodup_fold : ∀ (ns acc : List Int), acc.Nodup → (ns.foldl step_dedup acc).Nodup
  | [], _, h => h
  | n :: ns, acc, h => nodup_fold ns _ (nodup_step h)
theorem nodup_ddup (ns : List Int) : (ddup ns).Nodup := nodup_fold ns [] List.nodup_nil
theorem ddup_len (ns : List Int) : (ddup ns).length ≤ ns.length := by
  have := firstMet_length_le (fun i => ns.getD i 0) ns.length
  rwa [ddup_first] at this
/-- in order, without repeats: one list -/
def srtU (ns : List Int) : List Int := (ddup ns).mergeSort
theorem srtU_mem (ns : List Int) (k : Int) : k ∈ srtU ns ↔ k ∈ ns := by unfold srtU; rw [List.mem_mergeSort, mem_ddup]
theorem srtU_lt (ns : List Int) : (srtU ns).Pairwise (· < ·) := by
  have h1 : (srtU ns).Pairwise (fun a b => decide (a ≤ b) = true) := List.pairwise_mergeSort (fun a b c h1 h2 => by simp at *; omega) (fun a b => by simp; omega) _
  have h2 : (srtU ns).Nodup := (List.mergeSort_perm _ _).nodup_iff.mpr (nodup_ddup ns)
  exact lt_of_le_nodup _ (h1.imp (by simp)) h2
theorem lt_uniq : ∀ {a b : List Int}, a.Pairwise (· < ·) → b.Pairwise (· < ·) → (∀ k, k ∈ a ↔ k ∈ b) → a = b
  | [], [], _, _, _ => rfl
  | [], y :: b, _, _, h => absurd ((h y).mpr List.mem_cons_self) (by simp)
  | x :: a, [], _, _, h => absurd ((h x).mp List.mem_cons_self) (by simp)
  | x :: a, y :: b, ha, hb, h => by
    obtain ⟨a1, a2⟩ := List.pairwise_cons.mp ha
    obtain ⟨b1, b2⟩ := List.pairwise_cons.mp hb
    have e : x = y := by
      rcases List.mem_cons.mp ((h x).mp List.mem_cons_self) with e | m
      · exact e
      · rcases List.mem_cons.mp ((h y).mpr List.mem_cons_self) with e | m'
        · exact e.symm
        · have := a1 y m'; have := b1 x m; omega
    subst e
    congr 1
    refine lt_uniq a2 b2 fun k => ⟨fun m => ?_, fun m => ?_⟩
    · rcases List.mem_cons.mp ((h k).mp (List.mem_cons_of_mem _ m)) with e | m'
      · have := a1 k m; omega
      · exact m'
    · rcases List.mem_cons.mp ((h k).mpr (List.mem_cons_of_mem _ m)) with e | m'
      · have := b1 k m; omega
      · exact m'
def tLenSet (K : PySem.W.Frag) (te : TE) : TE := fun σ H Q => te σ H fun x H1 => ∃ (l : Addr) (ns : List Int), x = .ref l ∧ SqL K H1 l (ns.map V.int) ∧ ns.length ≤ 4000 ∧ Q (.int (ddup ns).length) H1
theorem pe_lenSet {X : Cx} {a : Expr} {ta : TE} {p p2 q pos : Pos} (hg : Gl X "len") (hm : X.mg "len" = none) (hg2 : Gl X "set") (hm2 : X.mg "set" = none) (ha : PE X a ta) (hc : X.calm = true := by rfl)
    (na : starEach [a] X.env = (false, eval a X.env) :: starEach [] X.env := by rfl) : PE X (.Call (.Name "len" p) [.Call (.Name "set" p2) [a] [] q] [] pos) (tLenSet X.K ta) := by
  refine ⟨fun pins s σ H Q I h => Call_ (ld_blt I hg hm boot_len (PyProof.Rows.callWith_builtin1 (PyProof.Rows.args_cons (Call_ (ld_blt I hg2 hm2 boot_set (PyProof.Rows.callWith_type1 (PyProof.Rows.args_cons (thn (ha.run pins s σ H _ I h) fun v s1 ⟨x, H1, I1, r1, l, ns, ex, hq, hl, q1⟩ => PyProof.Rows.args_nil ?_) na) na rfl))) rfl) rfl rfl))⟩
  subst ex
  cases r1
  obtain ⟨its, r, pl, hz⟩ := I1.list hq
  have hlen : its.toArray.size = ns.length := by rw [List.size_toArray, ← r.length, List.length_map]
  have hd := ddup_len ns
  refine call_set_list (I1.ok.hd hc) pl.isList (by simpa using r.ints) (by rw [hlen]; unfold scanBound; omega) fun h' tk hS hk => PyProof.Rows.args_nil ?_
  rw [hlen, ddup_first] at hS
  obtain ⟨o, es, ep, t, ho, hex, hdt, _, _, _, hf, hn⟩ := hS
  refine call_len_set ho hex hdt hf (by rw [hn]; omega) ⟨.int (ddup ns).length, H1, (I1.kept (t' := tk) fun b o e => hk b o (Heap.lt_size e) e).tok _, ⟨_, by rw [hn]⟩, q1⟩
/-- set(t) of a tuple, told of -/
def rSetT (K : PySem.W.Frag) (w : World) : List V → Hp → VK → Prop := fun xs H Q => ∃ (p : Addr) (ns : List Int), xs = [.ref p] ∧ SqT K H p (ns.map V.int) ∧ ns.length ≤ 60 ∧ ∀ a n, n ≤ ns.length → H a = none → Q (.ref a) (upd H a (SetO w a (fun j => decide (j ∈ ns)) n))
def rSrtS (w : World) : List V → Hp → VK → Prop := fun xs H Q => ∃ (a : Addr) (ns : List Int) (n : Nat), xs = [.ref a] ∧ H a = some (SetO w a (fun j => decide (j ∈ ns)) n) ∧ n < 64 ∧ ∀ p, H p = none → Q (.ref p) (upd H p (.lst ((srtU ns).map V.int)))
theorem call_setT {X : Cx} (hc : X.calm = true) : CallR X (.type "set") (rSetT X.K X.w) := by
  intro pins s σ H xs us Q I r ⟨p, ns, e, hq, hl, q⟩
  subst e
  rw [Vals.ref1 r]
  obtain ⟨its, rv, pt, hz⟩ := I.tuple hq
  refine call_set_tupI ns (I.ok.hd hc) (show s.heap.IsTuple p its.toArray from pt) (by simpa using rv.ints) (by unfold scanBound; omega) fun h' tk c R hcn k => ?_
  exact ⟨.ref s.heap.objs.size, _, I.laid (t' := tk) k (Nat.le_refl _) (setO_new R), rfl, q _ c hcn (I.hok.fresh (Nat.le_refl _))⟩
theorem call_srtS {X : Cx} (hc : X.calm = true) : CallR X (.builtin "sorted") (rSrtS X.w) := by
  intro pins s σ H xs us Q I r ⟨a, ns, n, e, ha, hn, q⟩
  refine cr_sortedSet hc pins s σ H xs us Q I r ⟨a, _, n, e, ha, hn, fun ns' p h1 h2 _ h4 => ?_⟩
  have e : ns' = srtU ns := lt_uniq h1 (srtU_lt ns) fun k => by rw [h2 k, srtU_mem, decide_eq_true_eq]
  rw [e]
  exact q p h4
theorem ints_all2 {G : Gx} {A : Av} {H : Hp} : ∀ ns : List Int, All2 (rep G A H) (ns.map V.int) ns
  | [] => .nil
  | n :: ns => .cons rfl (ints_all2 ns)
section
variable {Γ : Cxt} {te : TE} {δ : List Sl}
theorem ef_srtS {w : World} {m : W (Tup Int)} (h : EvT Γ te δ m) : EvF Γ (tCB (rSrtS w) (tCons (tCB (rSetT Γ.G.K w) (tCons te tNil)) tNil)) δ (m >>= fun t => W.need (t.l.length ≤ 60) >>= fun _ => pure (srtU t.l)) := fun σ A H Q I q => by
  refine h σ A H _ I (m.mono (fun t q v A1 H1 s r => ?_) (fun _ h => h) q)
  obtain ⟨hl, q⟩ := q
  obtain ⟨p, vs, rfl, h, k⟩ := r
  rw [ints_of k] at h
  refine ⟨p, t.l, rfl, h.sq, hl, fun a n hn na => ⟨a, t.l, n, rfl, upd_same, by omega, fun l nl => ?_⟩⟩
  have s2 : St A1 H1 A1 (upd H1 a (SetO w a (fun j => decide (j ∈ t.l)) n)) := St.new s.d na
  exact fresh_lst (s.trans s2) (ints_all2 _) nl q
theorem ev_lenSet {m : W (Bor Int)} (h : EvT Γ te δ m) : EvT Γ (tLenSet Γ.G.K te) δ (m >>= fun t => W.need (t.l.length ≤ 4000) >>= fun _ => (pure ((ddup t.l).length : Int) : W Int)) := fun σ A H Q I q => by
  refine h σ A H _ I (m.mono (fun t q v A1 H1 s r => ?_) (fun _ h => h) q)
  obtain ⟨hl, q⟩ := q
  obtain ⟨p, vs, rfl, h, k⟩ := bor_sq r
  rw [ints_of k] at h
  exact ⟨p, t.l, rfl, h, hl, q _ A1 H1 s rfl⟩
end
end TW
set_option Elab.async false
set_option maxRecDepth 100000
set_option maxHeartbeats 4000000
set_option linter.all false
set_option autoImplicit false
/-! TW10: dicts by whole numbers -/
namespace TW
open Pa (rep)
open PaL (repL)
open PySem PySem.Spec PyProof.Rows L2 My
/-- a dict that is read -/
structure Dct (β : Type) where
  l : List (Int × β)
def getP {β : Type} (d : List (Int × β)) (k : Int) : Option β := (d.find? fun p => decide (p.1 = k)).map (·.2)
def putP {β : Type} (d : List (Int × β)) (k : Int) (b : β) : List (Int × β) := if (d.any fun p => decide (p.1 = k)) = true then d.map (fun p => if p.1 = k then (p.1, b) else p) else d ++ [(k, b)]
def KvR {β : Type} [Py β] (G : Gx) (A : Av) (H : Hp) (x : Key × V) (y : Int × β) : Prop := x.1 = Sum.inl y.1 ∧ rep G A H x.2 y.2
instance {β : Type} [Py β] : Py (Dct β) where
  rep := fun G A H v d => ∃ p kvs, v = .ref p ∧ (¬ A.M p ∧ H p = some (.dK kvs)) ∧ All2 (KvR G A H) kvs d.l
  st := fun ⟨p, kvs, e, ⟨n, h⟩, k⟩ d s => ⟨p, kvs, e, ⟨fun m => (s.nm p m).elim n (fun z => by rw [h] at z; cases z), s.k p _ (fun b => n (d.s p b)) h⟩, k.imp fun _ _ r => ⟨r.1, Pa.st r.2 d s⟩⟩
  mv := fun ⟨p, kvs, e, ⟨n, h⟩, k⟩ s => ⟨p, kvs, e, ⟨fun m => (s.m p m).elim n (fun z => by rw [h] at z; cases z), s.k p _ n h⟩, k.imp fun _ _ r => ⟨r.1, Py.mv r.2 s⟩⟩
section
variable {β : Type} [Py β] {G : Gx} {A : Av} {H : Hp}
theorem key_eq {a : Key} {i k : Int} (e : a = Sum.inl i) : decide (a = (Sum.inl k : Key)) = decide (i = k) := by
  rw [e]
  by_cases h : i = k
  · rw [h]; simp
  · rw [decide_eq_false h, decide_eq_false fun z => h (Sum.inl.inj z)]
theorem getP_rel {kvs : List (Key × V)} {d : List (Int × β)} (k : All2 (KvR G A H) kvs d) (i : Int) : match getP d i with
    | none => valV kvs (Sum.inl i) = none
    | some b => ∃ v, valV kvs (Sum.inl i) = some v ∧ rep G A H v b := by
  induction k with
  | nil => rfl
  | @cons x y l m r k ih =>
    obtain ⟨e, r⟩ := r
    unfold getP valV
    rw [List.find?_cons, List.find?_cons, key_eq (k := i) e]
    cases h : decide (y.1 = i) with
    | true => exact ⟨_, rfl, r⟩
    | false => exact ih
theorem any_rel {kvs : List (Key × V)} {d : List (Int × β)} (k : All2 (KvR G A H) kvs d) (i : Int) : (kvs.any fun x => decide (x.1 = Sum.inl i)) = d.any fun p => decide (p.1 = i) := by
  induction k with
  | nil => rfl
  | cons r k ih => rw [List.any_cons, List.any_cons, key_eq r.1, ih]
theorem map_rel {kvs : List (Key × V)} {d : List (Int × β)} (k : All2 (KvR G A H) kvs d) (i : Int) {z : V} {b : β} (r : rep G A H z b) : All2 (KvR G A H) (kvs.map fun x => if x.1 = Sum.inl i then (x.1, z) else x) (d.map fun p => if p.1 = i then (p.1, b) else p) := by
  induction k with
  | nil => exact .nil
  | @cons x y l m q k ih =>
    refine .cons ?_ ih
    have e := key_eq (k := i) q.1
    show KvR G A H (if x.1 = Sum.inl i then (x.1, z) else x) (if y.1 = i then (y.1, b) else y)
    by_cases h : y.1 = i
    · rw [if_pos h, if_pos (of_decide_eq_true (e.trans (decide_eq_true h)))]; exact ⟨q.1, r⟩
    · rw [if_neg h, if_neg (of_decide_eq_false (e.trans (decide_eq_false h)))]; exact q
theorem put_rel {kvs : List (Key × V)} {d : List (Int × β)} (k : All2 (KvR G A H) kvs d) (i : Int) {z : V} {b : β} (r : rep G A H z b) : All2 (KvR G A H) (putK kvs (Sum.inl i) z) (putP d i b) := by
  unfold putK putP
  rw [any_rel k i]
  split
  · exact map_rel k i r
  · exact k.app (.cons ⟨rfl, r⟩ .nil)
theorem putP_len (d : List (Int × β)) (i : Int) (b : β) : (putP d i b).length ≤ d.length + 1 := by
  unfold putP
  split <;> simp
end
def dcW {α β : Type} (t : α → W Bool) (ek : α → W Int) (e : α → W β) : List α → List (Int × β) → W (Dct β)
  | [], d => pure ⟨d⟩
  | x :: xs, d => (t x).q >>= fun b => if b = true then (ek x).q >>= fun i => (e x).q >>= fun y => dcW t ek e xs (putP d i y) else dcW t ek e xs d
section
variable {Γ : Cxt} {te tk td : TE} {δ : List Sl} {α β : Type}
theorem ev_dget [Py β] {m : W (Dct β)} {n : W Int} (h : EvT Γ td δ m) (hk : EvT Γ tk δ n) : EvT Γ (tDGet td tk) δ (m >>= fun d => n >>= fun i => W.get (getP d.l i)) := fun σ A H Q I q => by
  refine h σ A H _ I (m.mono (fun d q v A1 H1 s1 r1 => ?_) (fun _ h => h) q)
  refine hk σ A1 H1 _ (I.step s1) (n.mono (fun i q u A2 H2 s2 r2 => ?_) (fun _ h => h) q)
  obtain ⟨p, kvs, rfl, ⟨_, hp⟩, k⟩ := Pa.st r1 s1.d s2
  have r2 : u = V.int i := r2
  subst r2
  have g := getP_rel k i
  have q : (W.get (getP d.l i)).run _ _ := q
  cases e : getP d.l i with
  | none =>
    rw [e] at q
    obtain ⟨_, z, _⟩ := q
    cases z
  | some b =>
    rw [e] at q g
    obtain ⟨_, z, q⟩ := q
    cases z
    obtain ⟨v, ev, r⟩ := g
    have dg := DGet.k (k := Sum.inl i) hp
    rw [ev] at dg
    exact ⟨p, v, rfl, dg, q v A2 H2 (s1.trans s2) r⟩
theorem ev_dcomp [Py β] {wi : TI} {g : TG} {tt : TT} {m : W (List α)} {bd : α → List Sl → List Sl} {js : List Nat} {t : α → W Bool} {ek : α → W Int} {e : α → W β} (hi : EvI Γ wi g δ m bd js) (ht : ∀ a, EvB Γ.q tt (bd a (wipeS δ js)) (t a)) (hk : ∀ a, EvT Γ.q tk (bd a (wipeS δ js)) (ek a)) (he : ∀ a, EvT Γ.q te (bd a (wipeS δ js)) (e a)) :
    EvT Γ (tDc wi g tt tk te js) δ (m >>= fun xs => W.need (xs.length ≤ sizeLine) >>= fun _ => dcW t ek e xs []) := fun σ A H Q I q => by
  refine hi σ A H _ I (m.mono (fun xs q J A1 H1 s1 ok => ?_) (fun _ h => h) q)
  obtain ⟨hz, q⟩ := q
  intro D nD
  have s2 : St A1 H1 (A1.add D) (upd H1 D (.dK [])) := St.newM s1.d nD
  have dead : ∀ {A' H'}, St A1 H1 A' H' → ¬ A'.B D → St A H (A'.del D) H' := fun s b => (s1.trans s).del I.dom (s1.none nD) b
  refine ⟨fun i k H => k + i = xs.length ∧ ∃ A kvs acc, St A1 H1 A H ∧ A.M D ∧ ¬ A.B D ∧ H D = some (.dK kvs) ∧ All2 (KvR Γ.G A H) kvs acc ∧ acc.length ≤ i ∧
      (dcW t ek e (xs.drop i) acc).run (fun r => ∀ kvs A' H', A'.M D → ¬ A'.B D → St A1 H1 A' H' → H' D = some (.dK kvs) → All2 (KvR Γ.G A' H') kvs r.l → Q (.ref D) H') Γ.Er,
    ⟨xs.length, rfl, A1.add D, [], [], s2, .inr rfl, fun b => s1.d.nm nD (s1.d.s D b), upd_same, .nil, Nat.le_refl _, ?_⟩, ?_⟩
  · refine (dcW t ek e xs []).mono (fun r q kvs A' H' hm hb st h k => ?_) (fun _ h => h) q
    exact q (.ref D) (A'.del D) H' (dead st hb) ⟨D, kvs, rfl, ⟨fun z => z.2 rfl, h⟩, k.imp fun _ _ r => ⟨r.1, Py.mv r.2 (Mv.del st.d)⟩⟩
  rintro i k H2 ⟨hkk, A2, kvs, acc, st2, hM, hB, hD, ka, hl, q2⟩
  have I2 : Iv Γ A2 H2 σ δ := (I.step s1).step st2
  by_cases hi : i < xs.length
  · obtain ⟨go, tn⟩ := ok.turn i xs[i] (List.getElem?_eq_getElem hi) A2 H2 I2.st (st2.mv s1.d)
    rw [List.drop_eq_getElem_cons hi] at q2
    refine .inr ⟨go, fun H3 => ∃ A kvs acc, St A1 H1 A H3 ∧ A.M D ∧ ¬ A.B D ∧ H3 D = some (.dK kvs) ∧ All2 (KvR Γ.G A H3) kvs acc ∧ acc.length ≤ i + 1 ∧
      (dcW t ek e (xs.drop (i + 1)) acc).run (fun r => ∀ kvs A' H', A'.M D → ¬ A'.B D → St A1 H1 A' H' → H' D = some (.dK kvs) → All2 (KvR Γ.G A' H') kvs r.l → Q (.ref D) H') Γ.Er,
      fun H3 ⟨A3, vs3, acc3, a, b, c, d, e3, f, g3⟩ => ⟨k - 1, by omega, by omega, A3, vs3, acc3, a, b, c, d, e3, f, g3⟩, fun x H' y => ?_⟩
    refine tn x H' y _ (wipeS δ js) (wipeS_len δ js) (I2.wipe js) _ fun l A3 H3 el s3 I3 => ⟨wipe_idem σ js l el, ?_⟩
    refine ht xs[i] _ A3 H3 _ I3.q ((t xs[i]).mono (fun b q A4 H4 s4 => ?_) (fun _ h => h) q2)
    have s34 := s3.trans s4
    cases b with
    | false =>
      refine iteF ⟨A4, kvs, acc, st2.trans s34, s34.ms D hM, fun z => (s34.nb D z).elim hB (fun y => by rw [y] at hD; cases hD), s34.k D _ hB hD, ka.imp fun _ _ r => ⟨r.1, Pa.st r.2 st2.d s34⟩, by omega, by simpa using q⟩
    | true =>
      refine iteT (hk xs[i] _ A4 H4 _ (I3.q.step s4) ((ek xs[i]).mono (fun z q u A5 H5 s5 r5 => ?_) (fun _ h => h) (by simpa [Cxt.q] using q)))
      refine he xs[i] _ A5 H5 _ ((I3.q.step s4).step s5) ((e xs[i]).mono (fun y q v A6 H6 s6 r6 => ?_) (fun _ h => h) (by simpa [Cxt.q] using q))
      have s36 := (s34.trans s5).trans s6
      have hD6 := s36.k D _ hB hD
      have hB6 : ¬ A6.B D := fun z => (s36.nb D z).elim hB fun y => by rw [y] at hD; cases hD
      have hM6 := s36.ms D hM
      have ru : u = V.int z := r5
      have ka6 : All2 (KvR Γ.G A6 H6) kvs acc := ka.imp fun _ _ r => ⟨r.1, Pa.st r.2 st2.d s36⟩
      have mv : Mv A6 H6 A6 (upd H6 D (.dK (putK kvs (Sum.inl z) v))) := Mv.chg s6.d hM6 hB6
      refine ⟨kvs, Sum.inl z, ru, hD6, by rw [ka.len]; omega, A6, _, putP acc z y, (st2.trans s36).chg nD hM6 hB6, hM6, hB6, upd_same, (put_rel ka6 z r6).imp fun _ _ r => ⟨r.1, Py.mv r.2 mv⟩, Nat.le_trans (putP_len _ _ _) (by omega), ?_⟩
      refine (dcW t ek e (xs.drop (i + 1)) (putP acc z y)).mono (fun r q => ?_) (fun _ h => h) q
      simpa using q
  · have ei : i = xs.length := by omega
    subst ei
    rw [List.drop_length] at q2
    exact .inl ⟨ok.stop A2 H2 I2.st (st2.mv s1.d), q2 kvs A2 H2 hM hB st2 hD ka⟩
end
end TW
set_option Elab.async false
set_option maxRecDepth 100000
set_option maxHeartbeats 4000000
namespace My
open PySem PySem.Spec PyProof.Rows L2 ClX
/-! ### an own operator between two instances of one class; C.m() -/
def rOwnB (C : Addr) (sp : Sp) (E : XK) : R2 := fun x y H Q => ∃ a dx fs b dy gs, x = .ref a ∧ y = .ref b ∧ H a = some (.ins C dx fs) ∧ H b = some (.ins C dy gs) ∧ sp [x, y] H Q E
section
variable {X : Cx} {CX : CXT} {C g p : Addr} {k n : Nat} {sp : Sp} {E : XK} {o : Expr} {m : Str} {pos apos : Pos} {ta : TE} {mc : Value} {pl : Sem Bool}
theorem op_ownB {op : Operator} (hc : PySem.W.selfFirst X.K C = true) (hs : PySem.W.findIn X.K (.ref C) (PySem.dunder op.info.2) = some (some (.ref g))) (hf : PySem.W.isFn X.K (.ref g) = true) (F : FnR X.prog X.w X.K X.mg X.base CX n g sp)
    (hr : Room n X.A) (hx : Passes CX X E) : OpR X (binaryOp op) (rOwnB C sp E) := by
  intro pins s σ H x y v u Q I rx ry h
  obtain ⟨a, dx, fs, b, dy, gs, rfl, rfl, ha, hb, q⟩ := h
  cases (show v = Value.ref a from rx)
  cases (show u = Value.ref b from ry)
  obtain ⟨mA, J, _⟩ := ins_get I.hok ha
  obtain ⟨od, J, _⟩ := J.look
  obtain ⟨mB, J', _⟩ := ins_get I.hok hb
  obtain ⟨od', J', _⟩ := J'.look
  obtain ⟨m, hF⟩ := I.fr
  refine PySem.W.binop_K (op := op) hF I.ok.mod.kin J J'.type hc hs hf ?_
  refine wpAny_mono (wpAny_call (run_fnR (us := [.ref a, .ref b]) (vs := [.ref a, .ref b]) F hr hx I (.cons rfl (.cons rfl .nil)) q)) (fun w s' z => ?_) fun _ _ x => x
  obtain ⟨z', H', I', rz, qz⟩ := z
  exact SlX.cmpback rz ⟨z', H', I', rz, qz⟩
theorem pe_cmeth0 (he : PE X o ta) (r : CRead X.K C mc) (c : CMet X.K C mc m p g) (F : FnR X.prog X.w X.K X.mg X.base CX k g sp) (hr : Room k X.A) (hx : Passes CX X E)
    (ht : eval (.Call (.Attribute o m apos) [] [] pos) X.env = (do
      let ov ← eval o X.env
      standAt apos.atName
      let (f, first) ← holding [ov] (getMethod ov m pl)
      callWith pos f first (backTo pos (starEach [] X.env)) (backToKw pos (keywordEach [] X.env))) := by rfl) :
    PE X (.Call (.Attribute o m apos) [] [] pos) (tCMeth C sp E ta tNil) := by
  refine ⟨fun pins s σ H Q I h => ?_⟩
  refine PySem.W.methodCall_KW (pl := pl) (thn (he.run pins s σ H _ I h) fun u s1 ⟨x, H1, I1, rx, ex, q⟩ => ?_) ht
  subst ex
  obtain rfl : u = Value.ref C := rx
  refine getmethcm_ok I1 r c fun s2 I2 => ?_
  exact PySem.W.callWith_M0 (K := X.K) (first := []) ⟨pin_at I2, I2.kIn⟩ c.fi (run_cm (us := []) (vs := []) F hr hx I2 .nil q)
end
end My
set_option Elab.async false
set_option maxRecDepth 100000
set_option maxHeartbeats 4000000
set_option linter.all false
set_option autoImplicit false
/-! TW11: len(o), o[i], o(..) and the like, by the class's own defs -/
namespace TW
open Pa (rep)
open PaL (repL)
open PySem PySem.Spec PyProof.Rows L2 My
section
variable {X : Cx} {pins : List (Addr × PySem.Obj)} {σ : L2.St} {H : Hp} {s : Shared} {CX : CXT} {k : Nat} {C g : Addr} {fd : FuncData} {ps : List Str} {sp : Sp} {E : XK}
/-- a def run at a near around -/
theorem run_ownC {A1 : Around} {vs : List V} {us : List Value} {Q : VK} (hf : A1.frames = X.A.frames) (hr : Room k A1) (F : FnOk X.prog X.w X.K X.mg X.base CX k g fd ps sp) (b : Binds X.K fd ps []) (hx : Passes CX X E) (I : Inv X pins σ H s) (rv : Vals vs us) (q : sp vs H Q E) :
    codeAny (model X.prog X.w) A1 (.call (.ref g) ⟨us, []⟩) (fun r s' => match r with | .ok (.ret v) => EP X pins σ Q v s' | .ok _ => False | .error e => X.xe e s') s := by
  have e0 : Env0 X.prog X.w X.K X.mg X.base A1 X.stack s H := by
    have e := I.env0
    exact ⟨by rw [hf]; exact e.frames, e.mod, e.bs, e.bsz, e.funs, e.frf, e.hok, e.bare⟩
  have hl := F.len _ _ _ _ q
  have hb := b s us I.kIn (by rw [List.append_nil, ← rv.length, hl])
  rw [List.append_nil] at hb
  refine codeAny_mono (F.run A1 X.stack s H ⟨us, []⟩ us vs Q E hr e0 hb rv q) fun r s' hq => ?_
  rcases r with e | fl
  · exact hx pins σ H s e s' I hq
  · cases fl with
    | ret u => exact I.after hq
    | _ => exact False.elim hq
theorem run_own {A1 : Around} {vs : List V} {us : List Value} {Q : VK} (hf : A1.frames = X.A.frames) (hr : Room k A1) (F : FnOk X.prog X.w X.K X.mg X.base CX k g fd ps sp) (b : Binds X.K fd ps []) (hx : Passes CX X E) (I : Inv X pins σ H s) (rv : Vals vs us) (q : sp vs H Q E) :
    wpAny (model X.prog X.w) A1 (call (.ref g) us) (EP X pins σ Q) X.xe s := wpAny_call (run_ownC hf hr F b hx I rv q)
/-! ### len(o) -/
def rLenO (C : Addr) (sp : Sp) (E : XK) : List V → Hp → VK → Prop := fun xs H Q => ∃ a dx fs, xs = [.ref a] ∧ H a = some (.ins C dx fs) ∧ sp [.ref a] H (fun v H' => ∃ n : Nat, n < 2 ^ 63 ∧ v = .int n ∧ Q v H') E
theorem call_lenO (hs : PySem.W.findIn X.K (.ref C) "__len__" = some (some (.ref g))) (hf : PySem.W.isFn X.K (.ref g) = true) (F : FnOk X.prog X.w X.K X.mg X.base CX k g fd ps sp) (b : Binds X.K fd ps []) (hr : Room (k + 1) X.A) (hx : Passes CX X E) :
    CallR X (.builtin "len") (rLenO C sp E) := by
  intro pins s σ H xs us Q I r ⟨a, dx, fs, e, ha, q⟩
  subst e
  rw [Vals.ref1 r]
  obtain ⟨mA, J, _⟩ := ins_get I.hok ha
  obtain ⟨od, J, _⟩ := J.look
  obtain ⟨m0, hF⟩ := I.fr
  refine PySem.W.len_K hF I.ok.mod.kin J hs hf (wpAny_mono (run_own (A1 := X.A.in1) (vs := [.ref a]) rfl hr.in1 F b hx I (.cons rfl .nil) q) (fun u s' z => ?_) fun _ _ z => z)
  obtain ⟨v, H', I', rv, n, hn, ev, q'⟩ := z
  subst ev
  obtain ⟨t, rfl⟩ := rv
  exact ⟨⟨Int.natCast_nonneg _, by omega⟩, .int n, H', I'.tok _, ⟨_, rfl⟩, q'⟩
/-! ### o[i] -/
def tSubO (C : Addr) (sp : Sp) (E : XK) (to ti : TE) : TE := fun σ H Q => to σ H fun x H1 => ti σ H1 fun y H2 => ∃ a dx fs, x = .ref a ∧ H2 a = some (.ins C dx fs) ∧ sp [x, y] H2 Q E
theorem pe_subO {o i : Expr} {to ti : TE} {pos : Pos} (hs : PySem.W.findIn X.K (.ref C) "__getitem__" = some (some (.ref g))) (hf : PySem.W.isFn X.K (.ref g) = true) (hf2 : PySem.W.fnIn X.K g = true) (F : FnOk X.prog X.w X.K X.mg X.base CX k g fd ps sp) (b : Binds X.K fd ps [])
    (hr : Room (k + 1) X.A) (hx : Passes CX X E) (ho : PE X o to) (hi : PE X i ti) (hsl : ∀ x v, subscripted i true (.ref x) v = runValue (.builtin "lifetime.subscript" ⟨[.ref x, v], []⟩) := by intros; with_unfolding_all rfl) : PE X (.Subscript o i pos) (tSubO C sp E to ti) := by
  refine ⟨fun pins s σ H Q I h => ?_⟩
  refine Subscript_ (thn (ho.run pins s σ H _ I h) fun u s1 ⟨x, H1, I1, rx, q1⟩ => thn (hi.run pins s1 σ H1 _ I1 q1) fun iv s2 ⟨y, H2, I2, ry, a, dx, fs, ex, ha, q2⟩ => ?_)
  subst ex
  obtain rfl : u = Value.ref a := rx
  obtain ⟨mA, J, _⟩ := ins_get I2.hok ha
  obtain ⟨od, J, _⟩ := J.look
  obtain ⟨m0, hF⟩ := I2.fr
  exact PySem.W.sub_K hF I2.ok.mod.kin J hs hf2 hf (run_own (A1 := X.A.in1) (vs := [.ref a, y]) rfl hr.in1 F b hx I2 (.cons rfl (.cons ry .nil)) q2) (hsl a iv)
end
/-! ### o(..) -/
theorem callWith_obj {M : Model} {A : Around} {E : Value → Shared → Prop} {s : Shared} {x : Addr} {pos : Pos} {args : List (Bool × Sem Value)} {kws : List (Option Str × Sem Value)} {Q : Value → Shared → Prop} (hp : (args.any (·.1) || kws.any (·.1.isNone)) = false)
    (h : wpAny M A (evalArgs (.ref x) true args kws) (fun a s1 => (∃ ox, s1.heap.get? x = some ox ∧ ox.data = .plain) ∧ wpAny M A (call (.ref x) a.pos a.kw) Q E s1) E s) : wpAny M A (callWith pos (.ref x) [] args kws) Q E s := by
  unfold callWith
  refine wpAny_bind (wpAny_holding (wpAny_mono h (fun a s1 hh => wpAny_bind (wpAny_standAt ?_)) fun _ _ z => z))
  obtain ⟨⟨ox, e, d⟩, hh⟩ := hh
  have L : PySem.W.Looks M s1.heap (keeperOf (.ref x)) .caller := by
    refine (PySem.W.Looks.ld (part := none) e).andThen ?_
    simp only [d]
    exact .now
  simp only [hp]
  refine wpAny_bind (L.here (wpAny_bind (wpAny_mono (wpAny_operateT hh) (fun r s2 hr => wpAny_bind (wpAny_holding (wpAny_point (wpAny_pure hr)))) fun _ _ z => z)))
section
variable {X : Cx} {CX : CXT} {k : Nat} {C g : Addr} {fd : FuncData} {ps : List Str} {sp : Sp} {E : XK} {o e : Expr} {es : List Expr} {to : TE} {ta : TA} {pos : Pos}
/-- o(e, ..), o an object -/
def tCallO (C : Addr) (sp : Sp) (E : XK) (to : TE) (ta : TA) : TE := fun σ H Q => to σ H fun x H1 => ∃ a, x = .ref a ∧ ta σ H1 fun vs H2 => ∃ dx fs, H2 a = some (.ins C dx fs) ∧ sp (x :: vs) H2 Q E
theorem pe_callO (hs : PySem.W.findIn X.K (.ref C) "__call__" = some (some (.ref g))) (hf : PySem.W.isFn X.K (.ref g) = true) (hf2 : PySem.W.fnIn X.K g = true) (F : FnOk X.prog X.w X.K X.mg X.base CX k g fd ps sp) (b : Binds X.K fd ps [])
    (hr : Room k X.A) (hx : Passes CX X E) (ho : PE X o to) (ha : PA X (e :: es) ta)
    (he : starEach (e :: es) X.env = (false, eval e X.env) :: starEach es X.env := by rfl) (hpl : (backTo pos (starEach es X.env)).any (·.1) = false := by rfl)
    (ht : eval (.Call o (e :: es) [] pos) X.env = (do callWith pos (← eval o X.env) [] (backTo pos (starEach (e :: es) X.env)) (backToKw pos (keywordEach [] X.env))) := by rfl) : PE X (.Call o (e :: es) [] pos) (tCallO C sp E to ta) := by
  refine ⟨fun pins s σ H Q I h => ?_⟩
  rw [ht]
  refine wpAny_bind (thn (ho.run pins s σ H _ I h) fun u s1 ⟨x, H1, I1, rx, a, ex, q1⟩ => ?_)
  subst ex
  obtain rfl : u = Value.ref a := rx
  have run := ha.run pos pins s1 σ H1 _ I1 q1
  rw [he] at run ⊢
  refine callWith_obj (by show ((false || (backTo pos (starEach es X.env)).any (·.1)) || false) = false; rw [hpl]; rfl) (Calls.evalArgs_plain (thn run fun us s2 ⟨vs, H2, I2, rv, dx, fs, ha, q2⟩ => ?_))
  obtain ⟨mA, J, _⟩ := ins_get I2.hok ha
  obtain ⟨od, J, _⟩ := J.look
  exact ⟨⟨_, J.at_, rfl⟩, wpAny_call (PySem.W.kco_code I2.kIn J rfl hs hf hf2 (run_ownC (vs := .ref a :: vs) rfl hr F b hx I2 (.cons rfl rv) q2))⟩
end
end TW
set_option Elab.async false
set_option maxRecDepth 100000
set_option maxHeartbeats 4000000
set_option linter.all false
set_option autoImplicit false
/-! TW12: by values: the class's own defs, kinds of values, classes as values -/
namespace TW
open Pa (rep)
open PaL (repL)
open PySem PySem.Spec PyProof.Rows L2 My
/-! ### kinds -/
structure Kd (G : Gx) (α : Type) [Pa α] where
  ty : α → Value
  ok : ∀ {A H v a}, rep G A H v a → TyX G.K H v (ty a)
section
variable {G : Gx} {α β : Type}
def kd_int : Kd G Int := ⟨fun _ => .type "int", fun h => by rw [show _ = V.int _ from h]; exact .base (.int _)⟩
def kd_bl : Kd G Bool := ⟨fun _ => .type "bool", fun h => by rw [show _ = V.bl _ from h]; exact .base (.bl _)⟩
def kd_str : Kd G Str := ⟨fun _ => .type "str", fun h => by rw [show _ = V.str _ from h]; exact .base (.str _)⟩
def kd_non : Kd G Unit := ⟨fun _ => .type "NoneType", fun h => by rw [show _ = V.non from h]; exact .base .non⟩
def kd_opt [Py α] (k : Kd G α) : Kd G (Option α) := ⟨fun o => match o with | none => .type "NoneType" | some a => k.ty a, fun {A H v o} h => by
  cases o with
  | none => rw [show v = .non from h]; exact .base .non
  | some a => exact k.ok h.2⟩
def kd_bor [Py α] : Kd G (Bor α) := ⟨fun _ => .type "list", fun h => by obtain ⟨p, vs, rfl, ⟨_, h⟩, _⟩ := h; exact .base (.lst h)⟩
theorem tyx_tup {p : Addr} {vs : List V} {A : Av} {H : Hp} (h : AtT G A H p vs) : TyX G.K H (.ref p) (.type "tuple") := by
  rcases h.sq with (h | ⟨o, h⟩) | ⟨o, its, n, e, c, _⟩
  · exact .base (.tup h)
  · exact .fTuple h
  · exact .kTuple e c
def kd_tup [Py α] : Kd G (Tup α) := ⟨fun _ => .type "tuple", fun h => by obtain ⟨p, vs, rfl, h, _⟩ := h; exact tyx_tup h⟩
def kd_t2 [Py α] [Py β] : Kd G (T2 α β) := ⟨fun _ => .type "tuple", fun h => by obtain ⟨p, y, z, rfl, h, _⟩ := h; exact tyx_tup h⟩
/-- what of the text an instance's kind is -/
structure CTy (K : PySem.W.Frag) (C : Addr) : Prop where
  cl : Cls K C
  ha : PySem.W.findIn K (.ref C) "__class__" = some (some (.builtin "object.__class__"))
  hn : PySem.W.specialIn K (.builtin "object.__class__") "__get__" = some (some (.builtin "getset_descriptor.__get__"))
  tk : PySem.W.takesIn K (.builtin "object.__class__") = some true
  hm : PySem.W.mroIn K C (.type "object") = some true
def kd_obj [PyO α] (c : CTy G.K (G.cls (Obj.nm α))) : Kd G α := ⟨fun _ => .ref (G.cls (Obj.nm α)), fun h => by
  obtain ⟨a, dx, ws, rfl, ⟨_, h⟩, _⟩ := PyO.is.mp h
  exact .base (.ins h c.cl c.ha c.hn c.tk c.hm)⟩
/-- a class as a value -/
structure Kls (n : Nat) where
instance {n : Nat} : Py (Kls n) where
  rep := fun G _ _ v _ => v = .ref (G.cls n)
  st := fun h _ _ => h
  mv := fun h _ => h
end
section
variable {Γ : Cxt} {te to ti tc : TE} {tl : TA} {δ : List Sl} {α β γ τ : Type}
theorem ev_kls {n : Nat} : EvT (α := Kls n) Γ (tC (.ref (Γ.G.cls n))) δ (pure ⟨⟩) := fun σ A H Q I q => q _ A H (St.refl I.dom) rfl
/-- isinstance(x, c) -/
theorem ev_isi [Pa α] {m : W α} {c : V} {u : Value} (kd : Kd Γ.G α) (kb : α → Bool) (cv : ClsV c u) (hb : ∀ a, PySem.W.kitOne Γ.G.K (kd.ty a) u = some (kb a)) (h : EvT Γ te δ m) :
    EvT Γ (tCB (rIsi Γ.G.K) (tCons te (tCons (tC c) tNil))) δ (m >>= fun a => (pure (kb a) : W Bool)) := fun σ A H Q I q => by
  refine h σ A H _ I (m.mono (fun a q v A1 H1 s1 r => ?_) (fun _ h => h) q)
  exact ⟨v, c, kd.ty a, u, kb a, rfl, cv, kd.ok r, hb a, q _ A1 H1 s1 rfl⟩
/-- isinstance(x, (list, tuple)) -/
theorem ev_isi2 [Pa α] {m : W α} {c d : V} {u w : Value} (kd : Kd Γ.G α) (kb : α → Bool) (cv : ClsV c u) (dv : ClsV d w) (hb : ∀ a, PySem.W.kitAny Γ.G.K (kd.ty a) [u, w] = some (kb a)) (h : EvT Γ te δ m) :
    EvT Γ (tCB (rIsiT Γ.G.K) (tCons te (tCons (tTup (tCons (tC c) (tCons (tC d) tNil))) tNil))) δ (m >>= fun a => (pure (kb a) : W Bool)) := fun σ A H Q I q => by
  refine h σ A H _ I (m.mono (fun a q v A1 H1 s1 r => ?_) (fun _ h => h) q)
  refine ⟨by show 2 ≤ sizeLine; decide, fun p n => ?_⟩
  have s2 : St A1 H1 A1 (upd H1 p (.tup [c, d])) := St.new s1.d n
  exact ⟨v, p, [c, d], kd.ty a, [u, w], kb a, rfl, upd_same, .cons cv (.cons dv .nil), kd.ok (Pa.st r s1.d s2), hb a, q _ A1 _ (s1.trans s2) rfl⟩
/-! ### own defs -/
theorem ev_lenO [PyO α] {f : Cn α Nl → W Int} {m : W α} (h : EvT Γ te δ m) : EvT Γ (tCB (rLenO (Γ.G.cls (Obj.nm α)) (SpF Γ.G f) Γ.E) (tCons te tNil)) δ (m >>= fun o => f ⟨o, ⟨⟩⟩ >>= fun n => W.need (0 ≤ n ∧ n < 2 ^ 63) >>= fun _ => pure n) := fun σ A H Q I q => by
  refine h σ A H _ I (m.mono (fun o q v A1 H1 s1 r1 => ?_) (fun _ h => h) q)
  have r2 := r1
  obtain ⟨a, dx, fs, rfl, ⟨_, hh⟩, _⟩ := PyO.is.mp r1
  refine ⟨a, dx, fs, rfl, hh, A1, ⟨o, ⟨⟩⟩, s1.d, ⟨_, [], rfl, r2, rfl⟩, (f ⟨o, ⟨⟩⟩).mono (fun n q u A2 H2 s2 r => ?_) (fun e he => I.erq s1 e he) q⟩
  obtain ⟨⟨n0, n1⟩, q⟩ := q
  have e : ((n.toNat : Nat) : Int) = n := Int.toNat_of_nonneg n0
  exact ⟨n.toNat, by omega, by rw [e]; exact r, q u A2 H2 (s1.trans s2) r⟩
theorem ev_subO [PyO α] [Pa β] [Pa γ] {f : Cn α (Cn β Nl) → W γ} {m : W α} {n : W β} (h : EvT Γ to δ m) (k : EvT Γ ti δ n) : EvT Γ (tSubO (Γ.G.cls (Obj.nm α)) (SpF Γ.G f) Γ.E to ti) δ (m >>= fun o => n >>= fun i => f ⟨o, ⟨i, ⟨⟩⟩⟩) := fun σ A H Q I q => by
  refine h σ A H _ I (m.mono (fun o q v A1 H1 s1 r1 => ?_) (fun _ h => h) q)
  refine k σ A1 H1 _ (I.step s1) (n.mono (fun i q u A2 H2 s2 ri => ?_) (fun _ h => h) q)
  have r2 : rep Γ.G A2 H2 v o := Pa.st r1 s1.d s2
  have r3 := r2
  obtain ⟨a, dx, fs, rfl, ⟨_, hh⟩, _⟩ := PyO.is.mp r2
  have s12 := s1.trans s2
  exact ⟨a, dx, fs, rfl, hh, A2, ⟨o, ⟨i, ⟨⟩⟩⟩, s2.d, ⟨_, _, rfl, r3, _, [], rfl, ri, rfl⟩, (f ⟨o, ⟨i, ⟨⟩⟩⟩).mono (fun b q w A3 H3 s3 r => q w A3 H3 (s12.trans s3) r) (fun e he => I.erq s12 e he) q⟩
theorem ev_callO [PyO α] [PaL τ] [Pa β] {f : Cn α τ → W β} {m : W α} {n : W τ} (h : EvT Γ to δ m) (k : EvA Γ tl δ n) : EvT Γ (tCallO (Γ.G.cls (Obj.nm α)) (SpF Γ.G f) Γ.E to tl) δ (m >>= fun o => n >>= fun t => f ⟨o, t⟩) := fun σ A H Q I q => by
  refine h σ A H _ I (m.mono (fun o q v A1 H1 s1 r1 => ?_) (fun _ h => h) q)
  obtain ⟨a, _, _, ev, _⟩ := PyO.is.mp r1
  refine ⟨a, ev, ?_⟩
  refine k σ A1 H1 _ (I.step s1) (n.mono (fun t q vs A2 H2 s2 rt => ?_) (fun _ h => h) q)
  have r2 : rep Γ.G A2 H2 v o := Pa.st r1 s1.d s2
  have r3 := r2
  obtain ⟨a', dx, fs, e, ⟨_, hh⟩, _⟩ := PyO.is.mp r2
  rw [ev] at e
  cases e
  have s12 := s1.trans s2
  exact ⟨dx, fs, hh, A2, ⟨o, t⟩, s2.d, ⟨_, vs, rfl, r3, rt⟩, (f ⟨o, t⟩).mono (fun b q w A3 H3 s3 r => q w A3 H3 (s12.trans s3) r) (fun e he => I.erq s12 e he) q⟩
theorem ev_prop [PyO α] [Pa β] {f : Cn α Nl → W β} {m : W α} (h : EvT Γ te δ m) : EvT Γ (tProp (Γ.G.cls (Obj.nm α)) (SpF Γ.G f) [] Γ.E te) δ (m >>= fun o => f ⟨o, ⟨⟩⟩) := fun σ A H Q I q => by
  refine h σ A H _ I (m.mono (fun o q v A1 H1 s1 r1 => ?_) (fun _ h => h) q)
  have r2 := r1
  obtain ⟨a, dx, fs, rfl, ⟨_, hh⟩, _⟩ := PyO.is.mp r1
  exact ⟨a, dx, fs, rfl, hh, A1, ⟨o, ⟨⟩⟩, s1.d, ⟨_, [], rfl, r2, rfl⟩, (f ⟨o, ⟨⟩⟩).mono (fun b q w A2 H2 s2 r => q w A2 H2 (s1.trans s2) r) (fun e he => I.erq s1 e he) q⟩
theorem ev_cmeth [PaL τ] [Pa β] {n : Nat} {f : Cn (Kls n) τ → W β} {m : W τ} (h : EvA Γ tl δ m) : EvT Γ (ClX.tCMeth (Γ.G.cls n) (SpF Γ.G f) Γ.E (tC (.ref (Γ.G.cls n))) tl) δ (m >>= fun t => f ⟨⟨⟩, t⟩) := fun σ A H Q I q => by
  refine ⟨rfl, h σ A H _ I (m.mono (fun t q vs A1 H1 s1 rt => ?_) (fun _ h => h) q)⟩
  exact ⟨A1, ⟨⟨⟩, t⟩, s1.d, ⟨_, vs, rfl, rfl, rt⟩, (f ⟨⟨⟩, t⟩).mono (fun b q w A2 H2 s2 r => q w A2 H2 (s1.trans s2) r) (fun e he => I.erq s1 e he) q⟩
/-- an operator that may raise: by values at the whole context -/
theorem ev_ownB [PyO α] [Pa γ] {f : Cn α (Cn α Nl) → W γ} {m n : W α} (h : EvT Γ to δ m) (k : EvT Γ ti δ n) : EvT Γ (tOp (rOwnB (Γ.G.cls (Obj.nm α)) (SpF Γ.G f) Γ.E) to ti) δ (m >>= fun x => n >>= fun y => f ⟨x, ⟨y, ⟨⟩⟩⟩) := fun σ A H Q I q => by
  refine h σ A H _ I (m.mono (fun x q v A1 H1 s1 r1 => ?_) (fun _ h => h) q)
  refine k σ A1 H1 _ (I.step s1) (n.mono (fun y q u A2 H2 s2 ry => ?_) (fun _ h => h) q)
  have r2 : rep Γ.G A2 H2 v x := Pa.st r1 s1.d s2
  have r3 := r2
  have r4 := ry
  obtain ⟨a, dx, fs, rfl, ⟨_, hh⟩, _⟩ := PyO.is.mp r2
  obtain ⟨b, dy, gs, rfl, ⟨_, hk⟩, _⟩ := PyO.is.mp ry
  have s12 := s1.trans s2
  exact ⟨a, dx, fs, b, dy, gs, rfl, rfl, hh, hk, A2, ⟨x, ⟨y, ⟨⟩⟩⟩, s2.d, ⟨_, _, rfl, r3, _, [], rfl, r4, rfl⟩, (f ⟨x, ⟨y, ⟨⟩⟩⟩).mono (fun b q w A3 H3 s3 r => q w A3 H3 (s12.trans s3) r) (fun e he => I.erq s12 e he) q⟩
theorem ev_ownD [PyO α] [Pa β] [Pa γ] {f : Cn α (Cn β Nl) → W γ} {m : W α} {n : W β} (kd : Kd Γ.G β) (hf : ∀ b, PySem.W.notFirst Γ.G.K (Γ.G.cls (Obj.nm α)) (kd.ty b) = true) (h : EvT Γ to δ m) (k : EvT Γ ti δ n) :
    EvT Γ (tOp (rOwnD Γ.G.K (Γ.G.cls (Obj.nm α)) (SpF Γ.G f) Γ.E) to ti) δ (m >>= fun x => n >>= fun y => f ⟨x, ⟨y, ⟨⟩⟩⟩) := fun σ A H Q I q => by
  refine h σ A H _ I (m.mono (fun x q v A1 H1 s1 r1 => ?_) (fun _ h => h) q)
  refine k σ A1 H1 _ (I.step s1) (n.mono (fun y q u A2 H2 s2 ry => ?_) (fun _ h => h) q)
  have r2 : rep Γ.G A2 H2 v x := Pa.st r1 s1.d s2
  have r3 := r2
  obtain ⟨a, dx, fs, rfl, ⟨_, hh⟩, _⟩ := PyO.is.mp r2
  have s12 := s1.trans s2
  exact ⟨a, dx, fs, _, rfl, hh, kd.ok ry, hf y, A2, ⟨x, ⟨y, ⟨⟩⟩⟩, s2.d, ⟨_, _, rfl, r3, _, [], rfl, ry, rfl⟩, (f ⟨x, ⟨y, ⟨⟩⟩⟩).mono (fun b q w A3 H3 s3 r => q w A3 H3 (s12.trans s3) r) (fun e he => I.erq s12 e he) q⟩
end
end TW
set_option Elab.async false
set_option maxRecDepth 100000
set_option maxHeartbeats 4000000
namespace My
open PySem L2
/-! ### rules with the written part named: for the blocks of comprehensions -/
section
variable {X : Cx} {K : PySem.W.Frag}
theorem ix_listK (h : X.K = K) : IxR X (rIxL K) := by subst h; exact ix_list
theorem ix_tupK (h : X.K = K) : IxR X (rIxT K) := by subst h; exact ix_tup
theorem op_eqDK (h : X.K = K) (hu : X.A.units + 64 < cLine) : OpR X (compareOp .Eq) (rEqD K) := by subst h; exact op_eqD hu
theorem op_neDK (h : X.K = K) (hu : X.A.units + 64 < cLine) : OpR X (compareOp .NotEq) (rNeD K) := by subst h; exact op_neD hu
theorem op_inK (h : X.K = K) : OpR X (compareOp .In) (rIn K false) := by subst h; exact op_in_seq
theorem op_notInK (h : X.K = K) : OpR X (compareOp .NotIn) (rIn K true) := by subst h; exact op_notIn_seq
def rLenK (K : PySem.W.Frag) : List V → Hp → VK → Prop := fun xs H Q => ∃ p ys, xs = [.ref p] ∧ (SqL K H p ys ∨ SqT K H p ys) ∧ Q (.int (ys.length : Nat)) H
theorem call_lenK (h : X.K = K) : CallR X (.builtin "len") (rLenK K) := by subst h; exact call_len_seq
theorem call_isiKn (h : X.K = K) : CallR X (.builtin "isinstance") (rIsi K) := by subst h; exact call_isi
def tTruK (K : PySem.W.Frag) (ta : TE) : TT := fun σ H Q => ta σ H fun x H' => ∃ k, TruV K x H' k ∧ Q k H'
theorem pt_truthK {a : Expr} {ta : TE} (h : X.K = K) (ha : PE X a ta) (he : ∀ whole, isTrue a X.env whole = (do let v ← whole; standAt a.pos; holding [v] (truthy v)) := by intro _; rfl) : PT X a (tTruK K ta) := by
  subst h; exact pt_truth ha he
theorem pe_fldK {e : Expr} {f : Str} {pos : Pos} {ta : TE} (h : X.K = K) (he : PE X e ta) (hb : attributeBase e f X.env (eval e X.env) = eval e X.env := by rfl) : PE X (.Attribute e f pos) (tFld K ta f) := by
  subst h; exact pe_fld he hb
end
end My
namespace My
open PySem L2
/-! ### comprehensions over a list, each element by itself -/
theorem wipe1 (σ : St) (j : Nat) (v : Option V) : wipe ((wipe σ [j]).set j v) [j] = wipe σ [j] := by
  show (((σ.set j none).set j v).set j none) = σ.set j none
  rw [List.set_set, List.set_set]
/-- [e for x in xs], the heap but for new objects as it was -/
theorem lc_mapL {K : PySem.W.Frag} {a D : Addr} {xs ys : List V} {j : Nat} {te : TE} {σ : St} {H : Hp} {Qd : Hp → Prop} (hS : SqL K H a xs) (hD : H D = none) (hl : xs.length = ys.length) (hn : xs.length ≤ 100000)
    (he : ∀ (i : Nat) (x y : V) (H2 : Hp), xs[i]? = some x → ys[i]? = some y → Same H H2 → ∀ Q : VK, (∀ H3, Same H2 H3 → Q y H3) → te ((wipe σ [j]).set j (some x)) H2 Q)
    (hd : ∀ H2, Same H H2 → H2 D = some (.lst ys) → Qd H2) :
    ∃ W : Nat → Nat → Hp → Prop, (∃ m, W 0 m (upd H D (.lst []))) ∧ ∀ i m H, W i m H →
      ((Itl K a).stop i H ∧ Qd H) ∨ ((Itl K a).go i H ∧ ∃ Nx : Hp → Prop, (∀ H', Nx H' → ∃ m', m' < m ∧ W (i + 1) m' H') ∧ ∀ x H', (Itl K a).yld i H x H' → gName j x (wipe σ [j]) H' fun σ2 H2 => wipe σ2 [j] = wipe σ [j] ∧ tYes σ2 H2 fun b H3 =>
        if b = true then te σ2 H3 fun y H4 => ∃ acc, H4 D = some (.lst acc) ∧ acc.length < sizeLine ∧ Nx (upd H4 D (.lst (acc ++ [y]))) else Nx H3) := by
  have sD : Same H (upd H D (.lst [])) := fun b o e => by
    rw [upd_ne (ne_of_none e hD)]; exact e
  refine lc_list (K := K) (a := a) (xs := xs) (fun i H2 => Same H H2 ∧ H2 D = some (.lst (ys.take i))) ⟨sD, upd_same⟩ (fun i H2 _ h => h.1.seq hS) ?_ ?_
  · rintro i x H2 hi ⟨s2, h2⟩
    have hi1 : i < xs.length := (List.getElem?_eq_some_iff.mp hi).1
    have hy : ys[i]? = some (ys[i]'(by omega)) := List.getElem?_eq_getElem _
    refine ⟨wipe1 σ j _, ?_⟩
    refine iteT (B := Same H H2 ∧ H2 D = some (.lst (ys.take (i + 1)))) ?_
    refine he i x _ H2 hi hy s2 _ fun H3 s3 => ?_
    refine ⟨_, s3 _ _ h2, ?_, fun b o e => ?_, ?_⟩
    · rw [List.length_take]
      exact Nat.lt_of_le_of_lt (Nat.min_le_left _ _) (Nat.lt_of_lt_of_le hi1 (Nat.le_trans hn (by decide)))
    · rw [upd_ne (ne_of_none e hD)]
      exact s3 _ _ (s2 _ _ e)
    · rw [upd_same, List.take_add_one, hy]
      rfl
  · rintro H2 ⟨s2, h2⟩
    refine hd H2 s2 ?_
    rw [h2, hl, List.take_length]
/-- [x for x in xs if t], the test leaves the heap but for new objects as it was -/
theorem lc_filterL {K : PySem.W.Frag} {a D : Addr} {xs : List V} {j : Nat} {tt : TT} {σ : St} {H : Hp} {Qd : Hp → Prop} (f : V → Bool) (hj : j < σ.length) (hS : SqL K H a xs) (hD : H D = none) (hn : xs.length ≤ 100000)
    (ht : ∀ (i : Nat) (x : V) (H2 : Hp), xs[i]? = some x → Same H H2 → ∀ Q : Bool → Hp → Prop, (∀ H3, Same H2 H3 → Q (f x) H3) → tt ((wipe σ [j]).set j (some x)) H2 Q)
    (hd : ∀ H2, Same H H2 → H2 D = some (.lst (xs.filter f)) → Qd H2) :
    ∃ W : Nat → Nat → Hp → Prop, (∃ m, W 0 m (upd H D (.lst []))) ∧ ∀ i m H, W i m H →
      ((Itl K a).stop i H ∧ Qd H) ∨ ((Itl K a).go i H ∧ ∃ Nx : Hp → Prop, (∀ H', Nx H' → ∃ m', m' < m ∧ W (i + 1) m' H') ∧ ∀ x H', (Itl K a).yld i H x H' → gName j x (wipe σ [j]) H' fun σ2 H2 => wipe σ2 [j] = wipe σ [j] ∧ tt σ2 H2 fun b H3 =>
        if b = true then tVar j σ2 H3 fun y H4 => ∃ acc, H4 D = some (.lst acc) ∧ acc.length < sizeLine ∧ Nx (upd H4 D (.lst (acc ++ [y]))) else Nx H3) := by
  have sD : Same H (upd H D (.lst [])) := fun b o e => by
    rw [upd_ne (ne_of_none e hD)]; exact e
  refine lc_list (K := K) (a := a) (xs := xs) (fun i H2 => Same H H2 ∧ H2 D = some (.lst ((xs.take i).filter f))) ⟨sD, upd_same⟩ (fun i H2 _ h => h.1.seq hS) ?_ ?_
  · rintro i x H2 hi ⟨s2, h2⟩
    have hi1 : i < xs.length := (List.getElem?_eq_some_iff.mp hi).1
    have et : (xs.take (i + 1)).filter f = (xs.take i).filter f ++ (if f x = true then [x] else []) := by
      rw [List.take_add_one, hi, List.filter_append]
      by_cases z : f x = true <;> simp [z]
    refine ⟨wipe1 σ j _, ht i x H2 hi s2 _ fun H3 s3 => ?_⟩
    refine ite2 (fun z => ?_) (fun z => ?_)
    · refine ⟨x, ?_, _, s3 _ _ h2, ?_, fun b o e => ?_, ?_⟩
      · show ((σ.set j none).set j (some x))[j]? = some (some x)
        rw [List.set_set, List.getElem?_set_self hj]
      · refine Nat.lt_of_le_of_lt (List.length_filter_le _ _) ?_
        rw [List.length_take]
        exact Nat.lt_of_le_of_lt (Nat.min_le_left _ _) (Nat.lt_of_lt_of_le hi1 (Nat.le_trans hn (by decide)))
      · rw [upd_ne (ne_of_none e hD)]
        exact s3 _ _ (s2 _ _ e)
      · rw [upd_same, et, if_pos z]
    · refine ⟨s2.trans s3, ?_⟩
      rw [s3 _ _ h2, et, if_neg z, List.append_nil]
  · rintro H2 ⟨s2, h2⟩
    refine hd H2 s2 ?_
    rw [h2, List.take_length]
end My
set_option Elab.async false
set_option maxRecDepth 100000
set_option maxHeartbeats 4000000
set_option linter.all false
set_option autoImplicit false
/-! TW13: small things for the printed texts -/
namespace TW
open Pa (rep)
open PaL (repL)
open PySem PySem.Spec PyProof.Rows L2 My
theorem u1 {n c : Nat} (h : n + 64 < c) : n + 1 < c := by omega
theorem kit2 {K : PySem.W.Frag} {t u w : Value} {b1 b2 : Bool} (h1 : PySem.W.kitOne K t u = some b1) (h2 : PySem.W.kitOne K t w = some b2) : PySem.W.kitAny K t [u, w] = some (b1 || b2) := by
  cases b1 with
  | true => exact kitAny_cons h1 (fun z => nomatch z) (fun _ => rfl)
  | false =>
    refine kitAny_cons h1 (fun _ => ?_) (fun z => nomatch z)
    cases b2 with
    | true => exact kitAny_cons h2 (fun z => nomatch z) (fun _ => rfl)
    | false => exact kitAny_cons h2 (fun _ => rfl) (fun z => nomatch z)
theorem kit_same (K : PySem.W.Frag) (C : Addr) : PySem.W.kitOne K (.ref C) (.ref C) = some true := by
  unfold PySem.W.kitOne
  rw [if_pos (by simp)]
theorem nf_same (K : PySem.W.Frag) (C : Addr) : PySem.W.notFirst K C (.ref C) = true := by simp [PySem.W.notFirst]
section
variable {Γ : Cxt} {δ : List Sl} {S α β L : Type} {Δ : S → List Sl} {ΔL : L → List Sl}
theorem st_never [Pa β] : StT Γ tNever δ (W.fail : W (Res S β L)) Δ ΔL := fun _ _ _ _ _ q => q.elim
end
def finI {α : Type} (m : W (Res α Unit Empty)) : W α := m >>= fun r => match r with
  | .nx o => pure o
  | _ => W.fail
theorem init_ok2 {α τ : Type} {P : Program} {w : World} {K : PySem.W.Frag} {mg : Str → Option Value} {base : Heap} {cls : Nat → Addr} {x qual : Str} {st : Stmt} {f : Addr} {fd : FuncData} {N ps : List Str} {k : Nat} [Obj α] [PaL τ] [ArL τ] (m : τ → W α) (F : Fun K x qual st f fd) (S : FnScope N ps (defScope st))
    (hn : PaL.n τ + 1 = ps.length) (hn2 : PaL.n τ + 1 ≤ N.length)
    (body : ∀ (cdv : Value) (A : Around) (outer : List Env) (s : Shared) (H : Hp) (E : XK) (A0 : Av) (H0 : Hp) (Er : Exn → Prop) (x : Addr) (t : τ), Room k (A.deeper (envOfC qual (defScope st) s.heap.objs.size f cdv)) →
      ∃ ts, PSs (cxOf (L2.CX P w) P w K mg base N qual (defScope st) f cdv A outer s H E) (defBody st) ts ∧
        ∃ (mb : W (Res α Unit Empty)), StT ⟨⟨K, cls⟩, A0, H0, E, Er⟩ ts (.ob (Obj.nm α) x [] :: (ArL.sls t ++ List.replicate (N.length - (PaL.n τ + 1)) .un)) mb (fun o => .ob (Obj.nm α) x (Obj.fds o) :: List.replicate (N.length - 1) .un) (fun e => e.elim) ∧ m t = finI mb) :
    FnOk P w K mg base (L2.CX P w) (k + 1) f fd ps (SpI ⟨K, cls⟩ m) := by
  refine init_ok m F S hn hn2 fun cdv A outer s H E A0 H0 Er x t hr => ?_
  obtain ⟨ts, hp, mb, hs, e⟩ := body cdv A outer s H E A0 H0 Er x t hr
  refine ⟨ts, hp, _, fun σ A H D I q => hs σ A H D I ?_, rfl⟩
  rw [e] at q
  refine mb.mono (fun r q => ?_) (fun _ h => h) q
  cases r <;> first | exact q | exact (show False from q).elim
/-- a def of the top as its callers see it -/
structure Df (K : PySem.W.Frag) (mg : Str → Option Value) (x : Str) (ps : List Str) (f : Addr) (fd : FuncData) : Prop where
  g : mg x = some (.ref f)
  kp : PySem.W.keepIn K (.ref f) = true
  b : Binds K fd ps []
section
variable {Γ : Cxt} {δ : List Sl} {α β γ τ : Type} {te ta tb : TE}
theorem ea_nil' : EvA Γ tNil δ (pure Nl.mk : W Nl) := ea_nil
theorem ev_ca1 [Pa α] [Pa γ] {r : List V → Hp → VK → Prop} {f : Cn α Nl → W γ} {m : W α} (hr : CaV Γ r f) (h : EvT Γ te δ m) : EvT Γ (tCB r (tCons te tNil)) δ (m >>= fun a => f ⟨a, ⟨⟩⟩) := fun σ A H Q I q => by
  refine h σ A H _ I (m.mono (fun a q v A1 H1 s1 r1 => ?_) (fun _ h => h) q)
  exact hr [v] A1 H1 Q ⟨a, ⟨⟩⟩ s1.d ⟨v, [], rfl, r1, rfl⟩ ((f ⟨a, ⟨⟩⟩).mono (fun c q w A3 H3 s3 r3 => q w A3 H3 (s1.trans s3) r3) (fun _ h => h) q)
theorem ev_ca2 [Pa α] [Pa β] [Pa γ] {r : List V → Hp → VK → Prop} {f : Cn α (Cn β Nl) → W γ} {m : W α} {n : W β} (hr : CaV Γ r f) (h : EvT Γ ta δ m) (k : EvT Γ tb δ n) : EvT Γ (tCB r (tCons ta (tCons tb tNil))) δ (m >>= fun a => n >>= fun b => f ⟨a, ⟨b, ⟨⟩⟩⟩) := fun σ A H Q I q => by
  refine h σ A H _ I (m.mono (fun a q v A1 H1 s1 r1 => ?_) (fun _ h => h) q)
  refine k σ A1 H1 _ (I.step s1) (n.mono (fun b q w A2 H2 s2 r2 => ?_) (fun _ h => h) q)
  exact hr [v, w] A2 H2 Q ⟨a, ⟨b, ⟨⟩⟩⟩ s2.d ⟨v, [w], rfl, Pa.st r1 s1.d s2, w, [], rfl, r2, rfl⟩ ((f ⟨a, ⟨b, ⟨⟩⟩⟩).mono (fun c q w A3 H3 s3 r3 => q w A3 H3 ((s1.trans s2).trans s3) r3) (fun _ h => h) q)
end
theorem ctupI {K : PySem.W.Frag} {a : Addr} {ns : List Int} {G : Gx} (h : SqT K (fun _ => none) a (ns.map V.int)) (e : G.K = K := by rfl) : ∀ A H, ∃ vs, SqT G.K (fun _ => none) a vs ∧ All2 (rep G A H) vs ns := fun _ _ => ⟨_, e ▸ h, ints_all2 _⟩
theorem strs_all2 {G : Gx} {A : Av} {H : Hp} : ∀ ns : List Str, All2 (rep G A H) (ns.map V.str) ns
  | [] => .nil
  | n :: ns => .cons rfl (strs_all2 ns)
theorem ctupS {K : PySem.W.Frag} {a : Addr} {ns : List Str} {G : Gx} (h : SqT K (fun _ => none) a (ns.map V.str)) (e : G.K = K := by rfl) : ∀ A H, ∃ vs, SqT G.K (fun _ => none) a vs ∧ All2 (rep G A H) vs ns := fun _ _ => ⟨_, e ▸ h, strs_all2 _⟩
end TW
set_option Elab.async false
set_option maxRecDepth 100000
set_option maxHeartbeats 4000000
set_option linter.all false
set_option autoImplicit false
/-! TW14: texts, defs with defaults, the bag -/
namespace TW
open Pa (rep)
open PaL (repL)
open PySem PySem.Spec PyProof.Rows L2 My
section
variable {Γ : Cxt} {te : TE} {δ : List Sl}
theorem ov_leS : OpV Γ (fun x y H Q => ∃ i j, x = V.str i ∧ y = V.str j ∧ Q (.bl (!decide (j.cps.toList < i.cps.toList))) H) (fun (a b : Str) => (pure (!decide (b.cps.toList < a.cps.toList)) : W Bool)) := fun x y A H Q a b d hx hy q =>
  ⟨a, b, hx, hy, q _ A H (St.refl d) rfl⟩
theorem cv_lenStr : CaV Γ (fun xs H Q => ∃ z : Str, xs = [V.str z] ∧ z.length ≤ sizeLine ∧ Q (.int z.length) H) (fun (t : Cn Str Nl) => W.need (t.a.length ≤ sizeLine) >>= fun _ => (pure (t.a.length : Int) : W Int)) := fun xs A H Q t d h q => cv1 h fun v e r =>
  ⟨t.a, by rw [e, show v = .str t.a from r], q.1, q.2 _ A H (St.refl d) rfl⟩
def chrs (s : Str) : List Str := s.cps.toList.map fun c => ⟨#[c]⟩
theorem ei_str {g : TG} {bd : Str → List Sl → List Sl} {js : List Nat} {m : W Str} (h : EvT Γ te δ m) (hg : EvG Γ g bd js δ.length) : EvI Γ (iStr te) g δ (m >>= fun s => (pure (chrs s) : W (List Str))) bd js := fun σ A H R I q => by
  refine h σ A H _ I (m.mono (fun s q v A1 H1 s1 r => ?_) (fun _ h => h) q)
  refine ⟨s, r, q _ A1 H1 s1 ⟨fun A2 H2 st mv => ?_, fun i a e A2 H2 st mv => ?_⟩⟩
  · show s.cps.size ≤ (chrs s).length
    unfold chrs
    rw [List.length_map, Array.length_toList]
    exact Nat.le_refl _
  · unfold chrs at e
    rw [List.getElem?_map, Option.map_eq_some_iff] at e
    obtain ⟨c, ec, ea⟩ := e
    rw [Array.getElem?_toList] at ec
    refine ⟨(Array.getElem?_eq_some_iff.mp ec).1, fun x H' y σ2 δ2 hn I2 Q q => ?_⟩
    obtain ⟨eH, c', ec', ex⟩ := y
    rw [ec] at ec'
    cases ec'
    subst eH
    exact hg.2 _ a A2 _ σ2 δ2 hn I2 (by rw [ex, ← ea]; rfl) Q fun l el I3 => q l A2 _ el (St.refl I2.dom) I3
end
section
variable {τ α β : Type} {P : Program} {w : World} {K : PySem.W.Frag} {mg : Str → Option Value} {base : Heap} {cls : Nat → Addr} {x qual : Str} {st : Stmt} {f : Addr} {fd : FuncData} {N ps : List Str} {k : Nat} {dvs : List V} {kws : List (Str × V)}
theorem def_okD [PaL τ] [ArL τ] [Pa β] (m : τ → W β) (F : FunD K x qual (defArgs st) (defBody st) (defScope st) dvs kws f fd) (S : FnScope N ps (defScope st)) (hn : PaL.n τ = ps.length) (hn2 : PaL.n τ ≤ N.length)
    (body : ∀ (cdv : Value) (A : Around) (outer : List Env) (s : Shared) (H : Hp) (E : XK) (A0 : Av) (Er : Exn → Prop) (t : τ), Room k (A.deeper (envOfC qual (defScope st) s.heap.objs.size f cdv)) →
      ∃ ts, PSs (cxOf (L2.CX P w) P w K mg base N qual (defScope st) f cdv A outer s H E) (defBody st) ts ∧ BodyOk ⟨⟨K, cls⟩, A0, H, E, Er⟩ ts (ArL.sls t ++ List.replicate (N.length - PaL.n τ) .un) (m t)) :
    FnOk P w K mg base (L2.CX P w) (k + 1) f fd ps (SpF ⟨K, cls⟩ m) := by
  refine F.ok S (fun vs H Q E h => ?_) (fun cdv A outer s H vs Q E hr h => ?_)
  · obtain ⟨A, t, d, r, q⟩ := h
    rw [PaL.lenL r, hn]
  · obtain ⟨A0, t, d, r, q⟩ := h
    obtain ⟨ts, hp, hb⟩ := body cdv A outer s H E A0 (fun e => ∀ cl d A' H', St A0 H A' H' → ExR ⟨K, cls⟩ A' H' e cl d → E cl d H') t hr
    exact ⟨ts, hp, hb _ A0 H Q (iv_start d r hn2 fun e cl d A' H' h s x => h cl d A' H' s x) q⟩
end
/-! ### the bag -/
def BagH (H : Hp) (b : Addr) : Prop := ∃ o, H b = some o ∧ BagO o
def Keep (b : Addr) (H H' : Hp) : Prop := ∀ a o, a ≠ b → H a = some o → H' a = some o
def sp_take0 : Sp := fun vs H Q _ => ∃ (b : Addr) (k : Int), vs = [.ref b, .int k] ∧ BagH H b ∧ 0 < k ∧ k < 2 ^ 8000 ∧ ∀ (r : Int) (H' : Hp), 0 ≤ r → r < k → BagH H' b → Keep b H H' → Q (.int r) H'
def w_take (_ : Bag) (k : Int) : W Int := W.need (0 < k ∧ k < 2 ^ 8000) >>= fun _ => W.pick fun r => 0 ≤ r ∧ r < k
theorem take_of {G : Gx} : ∀ vs H Q E, SpF G (fun t : Cn Bag (Cn Int Nl) => w_take t.a t.r.a) vs H Q E → sp_take0 vs H Q E := fun vs H Q E ⟨A, t, d, ⟨v, vs1, e1, ⟨p, ep, hb, ho⟩, v2, vs2, e2, ek, e3⟩, q⟩ => by
  cases e3
  obtain ⟨⟨k0, k1⟩, q⟩ := q
  refine ⟨p, t.r.a, by rw [e1, e2, ep, show v2 = V.int t.r.a from ek], ho, k0, k1, fun r H' h0 h1 hb2 kp => q r ⟨h0, h1⟩ _ A H' ?_ rfl⟩
  refine ⟨fun _ h => h, fun _ h => h, fun _ h => .inl h, fun _ h => .inl h, fun a o n e => kp a o (fun z => n (z ▸ hb)) e, fun a m => ?_, fun a b => ?_, d.s⟩
  · by_cases z : a = p
    · obtain ⟨o, e, _⟩ := hb2
      rw [z, e]; exact nofun
    · cases e : H a with
      | none => exact absurd e (d.m a m)
      | some o => rw [kp a o z e]; exact nofun
  · by_cases z : a = p
    · rw [z]; exact hb2
    · obtain ⟨o, e, bo⟩ := d.b a b
      exact ⟨o, kp a o z e, bo⟩
def sp_bag0 (K : PySem.W.Frag) : Sp := fun vs H Q _ => ∃ (a : Addr) (ns : List Int) (k : Int), vs = [.ref a, .int k] ∧ SqL K H a (ns.map V.int) ∧ ns.length ≤ 63 ∧ 0 ≤ k ∧ k < 1000 ∧
  ∀ (b : Addr) (o : HO) (H1 : Hp), Same H H1 → H1 b = none → BagO o → Q (.ref b) (upd H1 b o)
def w_bag (s : Scr) (k : Int) : W Bag := W.need (s.l.length ≤ 63 ∧ 0 ≤ k ∧ k < 1000) >>= fun _ => pure ⟨⟩
theorem same_st {A : Av} {H H' : Hp} (d : Dom A H) (s : Same H H') : St A H A H' := ⟨fun _ h => h, fun _ h => h, fun _ h => .inl h, fun _ h => .inl h, fun a o _ e => s a o e, fun a m => by
  cases e : H a with
  | none => exact absurd e (d.m a m)
  | some o => rw [s a o e]; exact nofun, fun a b => let ⟨o, e, bo⟩ := d.b a b; ⟨o, s a o e, bo⟩, d.s⟩
theorem bag_of {K : PySem.W.Frag} {cls : Nat → Addr} : ∀ vs H Q E, SpF ⟨K, cls⟩ (fun t : Cn Scr (Cn Int Nl) => w_bag t.a t.r.a) vs H Q E → sp_bag0 K vs H Q E := fun vs H Q E ⟨A, t, d, ⟨v, vs1, e1, ⟨p, ep, hs⟩, v2, vs2, e2, ek, e3⟩, q⟩ => by
  cases e3
  obtain ⟨⟨k0, k1, k2⟩, q⟩ := q
  refine ⟨p, t.a.l, t.r.a, by rw [e1, e2, ep, show v2 = V.int t.r.a from ek], hs.sq, k0, k1, k2, fun b o H1 s n bo => ?_⟩
  have s1 := same_st d s
  exact q _ (A.addB b) _ (s1.trans (St.newB s1.d n bo)) ⟨b, rfl, .inr rfl, o, upd_same, bo⟩
theorem init_okD {α τ : Type} {P : Program} {w : World} {K : PySem.W.Frag} {mg : Str → Option Value} {base : Heap} {cls : Nat → Addr} {x qual : Str} {st : Stmt} {f : Addr} {fd : FuncData} {N ps : List Str} {k : Nat} [Obj α] [PaL τ] [ArL τ] (m : τ → W α) {dvs : List V} {kws : List (Str × V)} (F : FunD K x qual (defArgs st) (defBody st) (defScope st) dvs kws f fd) (S : FnScope N ps (defScope st))
    (hn : PaL.n τ + 1 = ps.length) (hn2 : PaL.n τ + 1 ≤ N.length)
    (body : ∀ (cdv : Value) (A : Around) (outer : List Env) (s : Shared) (H : Hp) (E : XK) (A0 : Av) (H0 : Hp) (Er : Exn → Prop) (x : Addr) (t : τ), Room k (A.deeper (envOfC qual (defScope st) s.heap.objs.size f cdv)) →
      ∃ ts, PSs (cxOf (L2.CX P w) P w K mg base N qual (defScope st) f cdv A outer s H E) (defBody st) ts ∧
        ∃ (mb : W (Res α Unit Empty)), StT ⟨⟨K, cls⟩, A0, H0, E, Er⟩ ts (.ob (Obj.nm α) x [] :: (ArL.sls t ++ List.replicate (N.length - (PaL.n τ + 1)) .un)) mb (fun o => .ob (Obj.nm α) x (Obj.fds o) :: List.replicate (N.length - 1) .un) (fun e => e.elim) ∧
          mb = (m t >>= fun o => pure (.nx o))) :
    FnOk P w K mg base (L2.CX P w) (k + 1) f fd ps (SpI ⟨K, cls⟩ m) := by
  refine F.ok S (fun vs H Q E h => ?_) (fun cdv A outer s H vs Q E hr h => ?_)
  · obtain ⟨A, H0, x, dx, ws, t, rfl, d, _, _, _, _, r, q⟩ := h
    rw [List.length_cons, PaL.lenL r, hn]
  · obtain ⟨A0, H0, x, dx, ws, t, rfl, d, nx, nd, ne, rfl, r, q⟩ := h
    obtain ⟨ts, hp, mb, hb, rfl⟩ := body cdv A outer s _ E A0 H0 (fun e => ∀ cl d A' H', St A0 H0 A' H' → ExR ⟨K, cls⟩ A' H' e cl d → E cl d H') x t hr
    have s1 := made_st (C := cls (Obj.nm α)) d nx nd ne
    have hl := PaL.lenL r
    have hs := ArL.len t
    refine ⟨ts, hp, hb _ _ _ _ ⟨?_, fun i s e => ?_, fun i j s u p hij ei ej oi oj pi pj => ?_, d, s1, fun e cl d A' H' h s x => h cl d A' H' s x⟩ ((m t).mono (fun o q σ' A' H' mv I => ?_) (fun _ h => h) q)⟩
    · unfold L2.start
      simp only [List.length_append, List.length_map, List.length_replicate, List.length_cons, hl, hs] <;> omega
    · cases i with
      | zero =>
        cases e
        exact ⟨some (.ref x), rfl, x, _, rfl, .inr rfl, fun b => d.nm nx (d.s x b), nx, upd_same, rfl, dx, [], rfl, .nil⟩
      | succ i =>
        rw [List.getElem?_cons_succ] at e
        by_cases hi : i < (ArL.sls t).length
        · rw [List.getElem?_append_left hi] at e
          obtain ⟨v, e1, r2⟩ := ArL.ok r i s e
          refine ⟨some v, ?_, r2.step d s1⟩
          unfold L2.start
          rw [List.getElem?_append_left (by rw [List.length_map, List.length_cons, hl, ← hs]; omega), List.getElem?_map, List.getElem?_cons_succ, e1]
          rfl
        · rw [List.getElem?_append_right (by omega), List.getElem?_replicate] at e
          split at e
          · rename_i hlt
            cases e
            refine ⟨none, ?_, trivial⟩
            unfold L2.start
            rw [List.getElem?_append_right (by rw [List.length_map, List.length_cons, hl, ← hs]; omega), List.getElem?_replicate, List.length_map, List.length_cons, hl, ← hs, if_pos]
            omega
          · cases e
    · have no : ∀ (i : Nat) (s : Sl), (Sl.ob (Obj.nm α) x [] :: (ArL.sls t ++ List.replicate (N.length - (PaL.n τ + 1)) Sl.un))[i]? = some s → s.own = true → i = 0 := fun i s e ho => by
        cases i with
        | zero => rfl
        | succ i =>
          have := List.mem_of_getElem? (show (ArL.sls t ++ List.replicate (N.length - (PaL.n τ + 1)) Sl.un)[i]? = some s from e)
          rcases List.mem_append.mp this with z | z
          · rw [ArL.no t s z] at ho; cases ho
          · rw [List.eq_of_mem_replicate z] at ho; cases ho
      exact hij ((no i s ei oi).trans (no j u ej oj).symm)
    · obtain ⟨p, o', e, mp, bp, n0, hh, ep, dx', ws', rfl, kk⟩ := I.own (i := 0) rfl rfl
      subst ep
      exact q A' H' dx' ws' I.st mp bp hh kk
theorem init_okD2 {α τ : Type} {P : Program} {w : World} {K : PySem.W.Frag} {mg : Str → Option Value} {base : Heap} {cls : Nat → Addr} {x qual : Str} {st : Stmt} {f : Addr} {fd : FuncData} {N ps : List Str} {k : Nat} [Obj α] [PaL τ] [ArL τ] (m : τ → W α) {dvs : List V} {kws : List (Str × V)} (F : FunD K x qual (defArgs st) (defBody st) (defScope st) dvs kws f fd) (S : FnScope N ps (defScope st))
    (hn : PaL.n τ + 1 = ps.length) (hn2 : PaL.n τ + 1 ≤ N.length)
    (body : ∀ (cdv : Value) (A : Around) (outer : List Env) (s : Shared) (H : Hp) (E : XK) (A0 : Av) (H0 : Hp) (Er : Exn → Prop) (x : Addr) (t : τ), Room k (A.deeper (envOfC qual (defScope st) s.heap.objs.size f cdv)) →
      ∃ ts, PSs (cxOf (L2.CX P w) P w K mg base N qual (defScope st) f cdv A outer s H E) (defBody st) ts ∧
        ∃ (mb : W (Res α Unit Empty)), StT ⟨⟨K, cls⟩, A0, H0, E, Er⟩ ts (.ob (Obj.nm α) x [] :: (ArL.sls t ++ List.replicate (N.length - (PaL.n τ + 1)) .un)) mb (fun o => .ob (Obj.nm α) x (Obj.fds o) :: List.replicate (N.length - 1) .un) (fun e => e.elim) ∧ m t = finI mb) :
    FnOk P w K mg base (L2.CX P w) (k + 1) f fd ps (SpI ⟨K, cls⟩ m) := by
  refine init_okD m F S hn hn2 fun cdv A outer s H E A0 H0 Er x t hr => ?_
  obtain ⟨ts, hp, mb, hs, e⟩ := body cdv A outer s H E A0 H0 Er x t hr
  refine ⟨ts, hp, _, fun σ A H D I q => hs σ A H D I ?_, rfl⟩
  rw [e] at q
  refine mb.mono (fun r q => ?_) (fun _ h => h) q
  cases r <;> first | exact q | exact (show False from q).elim
theorem ev_makeL {Γ : Cxt} {δ : List Sl} {tl : TA} {α τ : Type} [PyO α] [PaL τ] {f : τ → W α} {m : W τ} {i : Nat} {k : Kls (Obj.nm α)} (h : EvA Γ tl δ m) (hs : δ[i]? = some (.fx (Kls (Obj.nm α)) k) := by rfl) :
    EvT Γ (My.tMakeL i (Γ.G.cls (Obj.nm α)) (SpI Γ.G f) [] Γ.E tl) δ (m >>= f) := fun σ A H Q I q => by
  refine ⟨?_, ev_make h σ A H Q I q⟩
  obtain ⟨sv, e, v, e2, r⟩ := I.at_ i _ hs
  rw [e, e2]
  exact congrArg (fun v => some (some v)) r
theorem bag_asg {te : TE} {i : Nat} {U : TS} {D : Ends} {σ : L2.St} {H : Hp} {R : V → Hp → Prop} (k : ∀ Q : VK, (∀ v H', R v H' → Q v H') → te σ H Q) (h : ∀ v H', R v H' → U D (σ.set i (some v)) H') : tSeq (tAsg te (gName i)) U D σ H := k _ h
theorem bag_ret {te : TE} {tr : TA} {D : Ends} {σ : L2.St} {H : Hp} {R : V → Hp → Prop} (k : ∀ Q : VK, (∀ v H', R v H' → Q v H') → te σ H Q) (h : ∀ v H', R v H' → tr σ H' fun xs H2 => (v :: xs).length ≤ sizeLine ∧ ∀ p, H2 p = none → D.rt (.ref p) (upd H2 p (.lst (v :: xs)))) :
    tRet (tLst (tCons te tr)) D σ H := k _ h
theorem bag_at {ns : List Int} {i : Nat} {x : V} (h : (ns.map V.int)[i]? = some x) : ∃ z, x = .int z ∧ ns[i]? = some z := by
  rw [List.getElem?_map, Option.map_eq_some_iff] at h
  obtain ⟨z, e, ez⟩ := h
  exact ⟨z, ez.symm, e⟩
theorem bag_cut (ns : List Int) (hi : Option Int) : ∃ ms : List Int, cutV (ns.map V.int) none hi = ms.map V.int ∧ ms.length ≤ ns.length := by
  refine ⟨(ns.drop (HT.sIx (ns.map V.int).length 0 none)).take (HT.sIx (ns.map V.int).length (ns.map V.int).length hi - HT.sIx (ns.map V.int).length 0 none), by unfold cutV; rw [List.map_take, List.map_drop], ?_⟩
  rw [List.length_take, List.length_drop]
  omega
/-- where there is something -/
theorem ev_the {Γ : Cxt} {te : TE} {δ : List Sl} {α : Type} [Py α] {m : W (Option α)} (h : EvT Γ te δ m) : EvT Γ te δ (m >>= fun o => W.get o) := fun σ A H Q I q => by
  refine h σ A H _ I (m.mono (fun o q v A1 H1 s1 r1 => ?_) (fun _ h => h) q)
  obtain ⟨a, e, q⟩ := q
  subst e
  exact q v A1 H1 s1 r1.2
theorem pe_lenSetK {X : Cx} {K : PySem.W.Frag} {a : Expr} {ta : TE} {p p2 q pos : Pos} (h : X.K = K) (hg : Gl X "len") (hm : X.mg "len" = none) (hg2 : Gl X "set") (hm2 : X.mg "set" = none) (ha : PE X a ta) (hc : X.calm = true := by rfl)
    (na : starEach [a] X.env = (false, eval a X.env) :: starEach [] X.env := by rfl) : PE X (.Call (.Name "len" p) [.Call (.Name "set" p2) [a] [] q] [] pos) (tLenSet K ta) := by
  subst h
  exact pe_lenSet hg hm hg2 hm2 ha hc na
section
variable {X : Cx} {K : PySem.W.Frag}
theorem cr_maxK (h : X.K = K) (hc : X.calm = true) : CallR X (.builtin "max") (rMax K) := by subst h; exact cr_max hc
theorem cr_minK' (h : X.K = K) (hc : X.calm = true) : CallR X (.builtin "min") (rMin K) := by subst h; exact cr_min hc
theorem cr_sumK (h : X.K = K) (hc : X.calm = true) : CallR X (.builtin "sum") (rSum K) := by subst h; exact cr_sum hc
theorem cr_anyK (h : X.K = K) (hc : X.calm = true) : CallR X (.builtin "any") (rAny K) := by subst h; exact cr_any hc
theorem cr_allK (h : X.K = K) (hc : X.calm = true) : CallR X (.builtin "all") (rAll K) := by subst h; exact cr_all hc
end
end TW
set_option Elab.async false
set_option maxRecDepth 100000
set_option maxHeartbeats 4000000
set_option linter.all false
set_option autoImplicit false
/-! TW15: list(o) by the class's own iter and len -/
namespace TW
open Pa (rep)
open PaL (repL)
open PySem PySem.Spec PyProof.Rows L2 My
section
variable {X : Cx} {pins : List (Addr × PySem.Obj)} {σ : L2.St}
/-- the loop over a tuple's iterator that fills the list at q -/
theorem fill_loop {A1 : Around} {H3 : Hp} {q it t : Addr} {ys : List V} {Rs : Result → Shared → Prop} (hh : A1.in1.handled = none) (hz : ys.length < sizeLine) (ht : SqT X.K H3 t ys) (hne : t ≠ it) (hqt : t ≠ q) (hnit : it ≠ q) (hfp : FpOk X pins H3 it)
    (done : ∀ s, Inv X pins σ (upd H3 q (.lst ys)) s → Rs (.ok (.ret .none)) s) :
    ∀ (r i : Nat) (s : Shared), i + r = ys.length → Inv X pins σ (upd H3 q (.lst (ys.take i))) s → s.heap.IsTupleIter it t i → codeAny (model X.prog X.w) A1 (.builtin "list.extend.loop" ⟨[.ref q, .ref it, .none], []⟩) Rs s := by
  intro r
  induction r with
  | zero =>
    intro i s hi I hit
    have hT : SqT X.K (upd H3 q (.lst (ys.take i))) t ys := ht.imp (fun h => by unfold Rd at h ⊢; rw [upd_ne hqt]; exact h) id
    obtain ⟨its, rv, tp, _⟩ := I.tuple hT
    have tp : s.heap.IsTuple t its.toArray := tp
    obtain ⟨fz, f1, f2, f3, f4, f5⟩ := id hfp
    have f0 : upd H3 q (.lst (ys.take i)) it = none := (upd_ne hnit).trans fz
    refine codeAny_builtin (id := "list.extend.loop") PySem.F.entry_extend_loop ?_
    rw [Around.under_plainId (id := "list.extend.loop") PySem.F.plain_extend_loop _]
    refine (show wpAny _ A1.in1 (pyNext (.ref it) >>= _) _ _ s from wpAny_bind (wpAny_pyNext_tuple_end hh hit tp (by rw [List.getElem?_toArray]; exact rv.none_of (by rw [List.getElem?_eq_none]; omega)) fun h' eb => wpAny_pure (done _ ?_)))
    have I2 := I.turned (t' := s.toks) (fun b o nb z => eb b o nb z) f0 f1 f3 f4 f5
    rw [List.take_of_length_le (by omega)] at I2
    exact I2
  | succ r ih =>
    intro i s hi I hit
    have hT : SqT X.K (upd H3 q (.lst (ys.take i))) t ys := ht.imp (fun h => by unfold Rd at h ⊢; rw [upd_ne hqt]; exact h) id
    obtain ⟨its, rv, tp, _⟩ := I.tuple hT
    have tp : s.heap.IsTuple t its.toArray := tp
    obtain ⟨fz, f1, f2, f3, f4, f5⟩ := id hfp
    have f0 : upd H3 q (.lst (ys.take i)) it = none := (upd_ne hnit).trans fz
    have hlt : i < ys.length := by omega
    obtain ⟨u, hu, ru⟩ := rv.get (List.getElem?_eq_getElem hlt)
    refine codeAny_builtin (id := "list.extend.loop") PySem.F.entry_extend_loop ?_
    rw [Around.under_plainId (id := "list.extend.loop") PySem.F.plain_extend_loop _]
    refine (show wpAny _ A1.in1 (pyNext (.ref it) >>= _) _ _ s from wpAny_bind (wpAny_pyNext_tuple_item hit tp (x := u) (by rw [List.getElem?_toArray]; exact hu) fun h' hit' sb => ?_))
    have I2 := I.turned (t' := s.toks) (h' := h') (fun b o nb z => (sb.2 b nb).trans z) f0 f1 f3 f4 f5
    have hq : upd H3 q (.lst (ys.take i)) q = some (.lst (ys.take i)) := upd_same
    obtain ⟨z, its2, k, r2, hl2, e⟩ := I2.lstM hq
    have hlen : (ys.take i).length = i := by rw [List.length_take]; omega
    have hl3 := r2.length
    refine (show wpAny _ _ (updateSeq q (·.push u) >>= _) _ _ _ from wpAny_bind (wpAny_updateSeq e rfl (wpAny_pure ⟨plainId_quiet PySem.F.plain_extend_loop _, ?_⟩) (by rw [List.size_toArray]; omega) (by show (its2.toArray.push u).size ≤ sizeLine + 1; rw [Array.size_push, List.size_toArray]; omega)))
    have I3 := I2.lset (f := fun xs => xs.push u) (its' := its2 ++ [u]) (ys := ys.take i ++ [ys[i]]) (t' := s.toks) hq e (by rw [List.push_toArray]) (r2.append (.cons ru .nil)) (by rw [List.length_append, List.length_singleton]; omega)
    rw [upd_upd, ← List.take_succ_eq_append_getElem hlt] at I3
    refine ih (i + 1) _ (by omega) I3 ?_
    obtain ⟨o, ho, c⟩ := hit'
    refine ⟨o, ?_, c⟩
    show (h'.update q _).get? it = some o
    exact (Heap.get?_update_ne _ _ _ _ hnit).trans ho
/-- the length of an object is told for a hint -/
theorem hint_own {M : Model} {A : Around} {E : Value → Shared → Prop} {s : Shared} {Q : Bool → Shared → Prop} {C gl a : Addr} {K : PySem.W.Frag} {ox : PySem.Obj} {od : Option PySem.Obj} (hl : PySem.W.findIn K (.ref C) "__len__" = some (some (.ref gl))) (hK : K.In s.heap) (J : PySem.W.InstAt s.heap a ox C od)
    (h : wpAny M A (call (.builtin "len") [.ref a]) (fun u s' => ∃ (k : Int) (t : Tok), u = .int k t ∧ k.toNat ≤ sizeLine ∧ Q (k != 0) s') (fun _ _ => False) s) : wpAny M A (Builtin.List.listLengthHint (.ref a)) Q E s := by
  unfold Builtin.List.listLengthHint
  refine wpAny_bind (wpAny_bind (J.type.here ((PySem.W.looks_findIn hK hl).here ?_)))
  refine (show wpAny M A (rule "list.length-hint.len" >>= fun _ => (call (.builtin "len") [.ref a]).attempt >>= _) _ _ _ from wpAny_bind (wpAny_rule (wpAny_bind (wpAny_attempt (wpAny_mono h (fun u s' q => ?_) fun _ _ z => z.elim)))))
  obtain ⟨k, t, rfl, hk, q⟩ := q
  have e : Builtin.List.listTooLong k.toNat = false := decide_eq_false (by omega)
  refine (show wpAny M A (asInt? (.int k t) >>= _) _ _ _ from wpAny_bind (wpAny_pure ?_))
  refine (show wpAny M A (if Builtin.List.listTooLong k.toNat = true then _ else _) _ _ _ from ?_)
  rw [if_neg (by rw [e]; exact Bool.false_ne_true)]
  exact wpAny_pure q
/-- list(o) -/
def rListO (K : PySem.W.Frag) (C : Addr) (spI spL : Sp) : List V → Hp → VK → Prop := fun xs H Q => ∃ a dx fs, xs = [.ref a] ∧ H a = some (.ins C dx fs) ∧ ∀ q, H q = none →
  spI [.ref a] (upd H q (.lst [])) (fun v H2 => ∃ it t, v = .ref it ∧ upd H q (.lst []) it = none ∧ H2 it = some (TiO t it) ∧ H2 a = some (.ins C dx fs) ∧
    spL [.ref a] H2 (fun w H3 => ∃ (n : Nat) (ys : List V), n ≤ sizeLine ∧ w = .int n ∧ H3 q = some (.lst []) ∧ H3 it = some (TiO t it) ∧ SqT K H3 t ys ∧ ys.length < sizeLine ∧ Q (.ref q) (upd (ItX.dropH H3 it) q (.lst ys))) E0) E0
theorem call_listO {C gi gl : Addr} {fdI fdL : FuncData} {psI psL : List Str} {spI spL : Sp} {n m : Nat} (hc : X.calm = true) (hs : PySem.W.findIn X.K (.ref C) "__iter__" = some (some (.ref gi))) (hf : PySem.W.isFn X.K (.ref gi) = true)
    (FI : FnOk X.prog X.w X.K X.mg X.base CX0 n gi fdI psI spI) (bI : Binds X.K fdI psI []) (hl : PySem.W.findIn X.K (.ref C) "__len__" = some (some (.ref gl))) (hfl : PySem.W.isFn X.K (.ref gl) = true)
    (FL : FnOk X.prog X.w X.K X.mg X.base CX0 m gl fdL psL spL) (bL : Binds X.K fdL psL []) (hr : Room (n + 2) X.A) (hr2 : Room (m + 3) X.A) : CallR X (.type "list") (rListO X.K C spI spL) := by
  intro pins s σ H xs us Q I r ⟨a, dx, fs, e, ha, q⟩
  subst e
  obtain ⟨u, rfl, ru⟩ := vals1 r
  cases ru
  refine callType_codes (Q₁ := fun obj s₁ => obj = .ref s.heap.objs.size ∧ s₁ = { s with heap := s.heap.push ⟨.type "list", none, .seq #[], #[]⟩ }) PySem.F.called_list (PySem.F.typeCall_list_1 _) PySem.F.entry_list_init (code_list_new _ ⟨rfl, rfl⟩) fun obj s₁ ⟨e1, e2⟩ => ?_
  subst e1 e2
  have hS : (s.heap.push ⟨.type "list", none, .seq #[], #[]⟩).get? s.heap.objs.size = some ⟨.type "list", none, .seq #[], #[]⟩ := Heap.get?_push_size _ rfl
  refine ⟨⟨_, hS, rfl⟩, PySem.F.args_list_init_2 _ _, ?_⟩
  have fr : H s.heap.objs.size = none := I.hok.fresh (Nat.le_refl _)
  have qq := q _ fr
  clear q
  generalize hq0 : s.heap.objs.size = q0 at *
  have I1 : Inv X pins σ (upd H q0 (.lst [])) { s with heap := s.heap.push ⟨.type "list", none, .seq #[], #[]⟩ } := by
    rw [← hq0]
    exact I.lnew (its := []) (t' := s.toks) .nil (Nat.zero_le _)
  refine (show wpAny _ _ (Builtin.List.listItems (.ref q0) >>= fun old => Builtin.List.listUpdate (.ref q0) (fun _ => #[]) >>= fun _ => letGo old.toList.reverse >>= fun _ => Builtin.List.listExtendWith (.ref q0) (.ref a) .none) _ _ _ from wpAny_bind ?_)
  unfold Builtin.List.listItems
  refine wpAny_bind (wpAny_seqItems hS rfl (wpAny_pure (show wpAny _ _ (updateSeq q0 (fun _ => #[]) >>= fun _ => letGo (#[] : Array Value).toList.reverse >>= fun _ => Builtin.List.listExtendWith (.ref q0) (.ref a) .none) _ _ _ from wpAny_bind (wpAny_updateSeq hS rfl ?_))))
  have I2 := I1.lset (f := fun _ => #[]) (its := []) (its' := []) (ys := []) (t' := s.toks) upd_same hS rfl .nil (Nat.zero_le _)
  rw [upd_upd] at I2
  refine wpAny_bind (wpAny_letGo ?_)
  have hqa : q0 ≠ a := fun z => by rw [z, ha] at fr; cases fr
  have ha2 : upd H q0 (.lst []) a = some (.ins C dx fs) := (upd_ne (Ne.symm hqa)).trans ha
  generalize hs2 : ({ s with heap := _ } : Shared) = s2 at I2
  obtain ⟨mA, J, _⟩ := ins_get I2.hok ha2
  obtain ⟨od, J, _⟩ := J.look
  obtain ⟨m0, hF⟩ := I2.fr
  unfold Builtin.List.listExtendWith
  refine wpAny_bind (J.type.here ?_)
  have z1 : Builtin.List.listSameRef (.ref q0) (.ref a) = false := by simp [Builtin.List.listSameRef, hqa]
  rw [if_neg (by rw [z1]; exact fun z => nomatch z)]
  refine wpAny_bind (PySem.W.owit_iter hF I2.ok.mod.kin J hs hf ?_)
  have en : ∀ {s : Shared} {H : Hp}, Inv X pins σ H s → Env0 X.prog X.w X.K X.mg X.base X.A.in1.in1 X.stack s H := fun I => by
    have e := I.env0
    exact ⟨e.frames, e.mod, e.bs, e.bsz, e.funs, e.frf, e.hok, e.bare⟩
  have hb := bI s2 [.ref a] I2.kIn (by have := FI.len _ _ _ _ qq; simpa using this)
  refine wpAny_call (codeAny_mono (codeAny_gone (FI.run X.A.in1.in1 X.stack s2 _ ⟨[.ref a], []⟩ [.ref a] [.ref a] _ E0 hr.in1.in1 (en I2) (by simpa using hb) (.cons rfl .nil) qq)) fun r s3 ⟨gn, hq⟩ => ?_)
  rcases r with e | fl
  · exact pass0 pins σ _ s2 e s3 I2 hq
  cases fl with
  | next => exact False.elim hq
  | brk => exact False.elim hq
  | cont => exact False.elim hq
  | ret u =>
    obtain ⟨v2, H2, os, bare, un, hok, rv, it, t, ev, hn, hi, hka, qL⟩ := hq
    subst ev
    cases rv
    obtain ⟨v3, H3, I3, _, ev, eH⟩ := I2.after (Q := fun v H' => v = V.ref it ∧ H' = H2) ⟨.ref it, H2, os, bare, un, hok, rfl, rfl, rfl⟩
    subst eH
    have eo : s3.heap.get? it = some (tiObj t) := (I3.hok it _ hi).1
    have hlt : s2.heap.objs.size ≤ it := by
      refine Nat.le_of_not_lt fun z => ?_
      cases h0 : s2.heap.get? it with
      | none => rw [gn.2 it z h0] at eo; cases eo
      | some o => rw [un.free it o h0 hn (by simp)] at hi; cases hi
    refine wpAny_specialOf (T := "tuple_iterator") ⟨_, eo, rfl⟩ PySem.F.slot_tuple_iterator_next.lookup ?_
    obtain ⟨mB, J', _⟩ := ins_get I3.hok hka
    obtain ⟨od', J', _⟩ := J'.look
    obtain ⟨m1, hF1⟩ := I3.fr
    have e3 : Env0 X.prog X.w X.K X.mg X.base X.A.in1.in1.in1 X.stack s3 H3 := by
      have e := I3.env0
      exact ⟨e.frames, e.mod, e.bs, e.bsz, e.funs, e.frf, e.hok, e.bare⟩
    have hb3 := bL s3 [.ref a] I3.kIn (by have := FL.len _ _ _ _ qL; simpa using this)
    refine wpAny_bind (wpAny_holding (hint_own hl I3.kIn J' (PySem.W.len_K hF1 I3.ok.mod.kin J' hl hfl (wpAny_call (codeAny_mono (FL.run X.A.in1.in1.in1 X.stack s3 _ ⟨[.ref a], []⟩ [.ref a] [.ref a] _ E0 hr2.in1.in1.in1 e3 (by simpa using hb3) (.cons rfl .nil) qL) fun r s4 hq4 => ?_)))))
    rcases r with e | fl
    · exact False.elim hq4
    cases fl with
    | next => exact False.elim hq4
    | brk => exact False.elim hq4
    | cont => exact False.elim hq4
    | ret u =>
      obtain ⟨w, H4, os4, bare4, un4, hok4, rv4, n4, ys, hn4, ew, hq5, hi5, hsq, hys, fin⟩ := hq4
      subst ew
      obtain ⟨tk, rfl⟩ := rv4
      obtain ⟨_, H5, I5, _, _, eH⟩ := I3.after (Q := fun v H' => v = V.int n4 ∧ H' = H4) ⟨.int n4, H4, os4, bare4, un4, hok4, ⟨tk, rfl⟩, rfl, rfl⟩
      subst eH
      have hs1 := sizeLine_eq
      refine ⟨⟨Int.natCast_nonneg _, by omega⟩, n4, _, rfl, by omega, ?_⟩
      have eo5 : s4.heap.get? it = some (tiObj t) := (I5.hok it _ hi5).1
      obtain ⟨itz, _, ⟨ot, hot, hct, _⟩, _⟩ := I5.tuple hsq
      have hti : t ≠ it := fun z => by
        rw [z, eo5] at hot
        cases hot
        exact absurd (Value.type.inj hct) (by decide)
      have htq : t ≠ q0 := fun z => by
        obtain ⟨_, _, pl, _⟩ := I5.list (SqL.of hq5)
        obtain ⟨ol, hol, hcl, _⟩ := pl.isList
        rw [z, hol] at hot
        cases hot
        rw [hcl] at hct
        exact absurd (Value.type.inj hct) (by decide)
      have hqi : q0 ≠ it := fun z => by rw [z, hi5] at hq5; cases hq5
      have I6 : Inv X pins σ (ItX.dropH H5 it) { s4 with toks := s4.toks + 1 } := ItX.inv_drop (I5.tok _) hi5
      have hq6 : ItX.dropH H5 it q0 = some (.lst []) := (ItX.dropH_ne hqi).trans hq5
      have self : upd (ItX.dropH H5 it) q0 (.lst []) = ItX.dropH H5 it := by
        funext b
        by_cases z : b = q0
        · rw [z, upd_same, hq6]
        · rw [upd_ne z]
      have hsq6 : SqT X.K (ItX.dropH H5 it) t ys := hsq.imp (fun h => by unfold Rd at h ⊢; rw [ItX.dropH_ne hti]; exact h) id
      have loop : ∀ s, Inv X pins σ (ItX.dropH H5 it) s → s.heap.get? it = some (tiObj t) → codeAny (model X.prog X.w) X.A.in1 (.builtin "list.extend.loop" ⟨[.ref q0, .ref it, .none], []⟩) (wants (fun r s₂ => r = .none ∧ EP X pins σ Q (.ref q0) s₂) X.xe) s := fun s Is es =>
        fill_loop (A1 := X.A.in1) (by exact I.ok.hd hc) hys hsq6 hti htq (Ne.symm hqi) (I2.fpOk hlt ItX.dropH_same) (fun s' I' => ⟨rfl, .ref q0, _, I', rfl, fin⟩) ys.length 0 s (by omega) (by rw [List.take_zero, self]; exact Is) ⟨_, es, rfl, rfl⟩
      refine wpAny_ite_split (fun _ => ?_) (fun _ => wpAny_pure ⟨plainId_quiet PySem.F.plain_extend_loop _, loop _ I6 eo5⟩)
      obtain ⟨z6, its, k, r3, hl3, e6⟩ := I6.lstM hq6
      cases r3
      refine wpAny_bind (wpAny_rule (wpAny_bind (show wpAny _ _ (updateSeq q0 (·.push .none) >>= fun _ => updateSeq q0 (·.pop)) _ _ _ from wpAny_bind (wpAny_updateSeq e6 rfl ?_ (by show 0 ≤ sizeLine; exact Nat.zero_le _) (by show 1 ≤ sizeLine + 1; omega)))))
      have I7 := I6.lset (f := fun xs => xs.push Value.none) (its' := [Value.none]) (ys := [.non]) (t' := s4.toks + 1) hq6 e6 (by simp) (.cons rfl .nil) (by rw [List.length_singleton]; omega)
      obtain ⟨z8, its8, k8, r8, hl8, e8⟩ := I7.lstM upd_same
      obtain ⟨u8, rfl, ru8⟩ := r8.one
      refine wpAny_updateSeq e8 rfl ?_ (by show 1 ≤ sizeLine; omega) (by show 0 ≤ sizeLine + 1; exact Nat.zero_le _)
      refine wpAny_pure ⟨plainId_quiet PySem.F.plain_extend_loop _, loop _ ?_ ?_⟩
      · have I9 := I7.lset (f := fun xs => xs.pop) (its := [u8]) (its' := []) (ys := []) (t' := s4.toks + 1) upd_same e8 (by rfl) .nil (Nat.zero_le _)
        rw [upd_upd, self] at I9
        exact I9
      · exact (Heap.get?_update_ne _ _ _ _ (Ne.symm hqi)).trans ((Heap.get?_update_ne _ _ _ _ (Ne.symm hqi)).trans eo5)
end
section
variable {Γ : Cxt} {te : TE} {δ : List Sl} {α β : Type}
theorem St.dropX {A A' : Av} {H H' : Hp} {p : Addr} (s : St A H A' H') (n : H p = Option.none) (nm : ¬ A'.M p) : St A H A' (ItX.dropH H' p) := by
  have ne : ∀ a, A'.M a → a ≠ p := fun a m z => nm (z ▸ m)
  refine ⟨s.ms, s.bs, s.nm, s.nb, fun a o b e => ?_, fun a m => ?_, fun a b => ?_, s.d.s⟩
  · rw [ItX.dropH_ne (ne_of_none e n)]
    exact s.k a o b e
  · rw [ItX.dropH_ne (ne a m)]
    exact s.d.m a m
  · obtain ⟨o, e, bo⟩ := s.d.b a b
    exact ⟨o, (ItX.dropH_ne (ne a (s.d.s a b))).trans e, bo⟩
/-- a promise of a def that raises nothing -/
def SpF0 {τ β : Type} [PaL τ] [Pa β] (G : Gx) (m : τ → W β) : Sp := fun vs H Q _ => SpF G m vs H Q E0
theorem ef_listO [PyO α] [Py β] (get : α → Tup β) {fl : Cn α Nl → W Int} {m : W α} (h : EvT Γ te δ m) :
    EvF Γ (tCB (rListO Γ.G.K (Γ.G.cls (Obj.nm α)) (SpIt Γ.G get) (SpF0 Γ.G fl)) (tCons te tNil)) δ (m >>= fun o => (fl ⟨o, ⟨⟩⟩).q >>= fun n => W.need (0 ≤ n ∧ n ≤ sizeLine ∧ (get o).l.length < sizeLine) >>= fun _ => pure (get o).l) := fun σ A H Q I q => by
  refine h σ A H _ I (m.mono (fun o q v A1 H1 s1 r1 => ?_) (fun _ h => h) q)
  have r2 := r1
  obtain ⟨a, dx, fs, rfl, ⟨_, hh⟩, _⟩ := PyO.is.mp r1
  refine ⟨a, dx, fs, rfl, hh, fun p np => ?_⟩
  have s2 : St A1 H1 (A1.add p) (upd H1 p (.lst [])) := St.newM s1.d np
  refine ⟨A1.add p, o, a, rfl, Pa.st r2 s1.d s2, fun it tv hn rt => ?_⟩
  have s3 : St (A1.add p) (upd H1 p (.lst [])) (A1.add p) (upd (upd H1 p (.lst [])) it (TiO tv it)) := St.new s2.d hn
  have hpi : p ≠ it := fun z => by rw [← z, upd_same] at hn; cases hn
  have s13 := s2.trans s3
  refine ⟨it, tv, rfl, hn, upd_same, ?_, A1.add p, ⟨o, ⟨⟩⟩, s3.d, ⟨_, [], rfl, Pa.st r2 s1.d s13, rfl⟩, (fl ⟨o, ⟨⟩⟩).mono (fun n q w A4 H4 s4 rw4 => ?_) (fun e he => he.elim) q⟩
  · exact s13.k a _ (fun b => by obtain ⟨o', e, bo⟩ := s1.d.b a b; rw [hh] at e; cases e; obtain ⟨_, _, _, z, _⟩ := bo; cases z) hh
  obtain ⟨⟨n0, n1, n2⟩, q⟩ := q
  obtain ⟨tp, vs, et, hat, k⟩ := rt
  cases et
  have e : ((n.toNat : Nat) : Int) = n := Int.toNat_of_nonneg n0
  have nbp : ¬ A1.B p := fun b => s1.d.m p (s1.d.s p b) np
  have n1i : H1 it = Option.none := by rwa [upd_ne (Ne.symm hpi)] at hn
  have nmi : ¬ (A1.add p).M it := fun b => b.elim (fun b => s1.d.m it b n1i) fun e => hpi e.symm
  have hp2 : (upd (upd H1 p (.lst [])) it (TiO tv it)) p = some (.lst []) := (upd_ne hpi).trans upd_same
  have h4p : H4 p = some (.lst []) := s4.k p _ nbp hp2
  have h4i : H4 it = some (TiO tv it) := s4.k it _ (fun b => nmi (.inl (s1.d.s it b))) upd_same
  have nm4 : ¬ A4.M it := fun z => (s4.nm it z).elim nmi fun y => by rw [upd_same] at y; cases y
  have nb4 : ¬ A4.B p := fun z => (s4.nb p z).elim nbp fun y => by rw [hp2] at y; cases y
  have mp4 : A4.M p := s4.ms p (.inr rfl)
  have s5 : St (A1.add p) (upd H1 p (.lst [])) A4 (ItX.dropH H4 it) := (s3.trans s4).dropX hn nm4
  have s6 : St A1 H1 A4 (ItX.dropH H4 it) := (s13.trans s4).dropX n1i nm4
  have k5 : All2 (rep Γ.G A4 (ItX.dropH H4 it)) vs (get o).l := k.imp fun _ _ r => Pa.st r s2.d s5
  have mv : Mv A4 (ItX.dropH H4 it) A4 (upd (ItX.dropH H4 it) p (.lst vs)) := Mv.chg s5.d mp4 nb4
  refine ⟨n.toNat, vs, by omega, ?_, h4p, h4i, ?_, by rw [k.len]; exact n2, q p vs A4 _ ?_ mp4 nb4 (s1.trans (s6.chg np mp4 nb4)) upd_same (k5.imp fun _ _ r => Py.mv r mv)⟩
  · rw [e]; exact rw4
  · exact (hat.mv ((s3.trans s4).mv s2.d)).sq
  · exact s1.none np
end
section
variable {Γ : Cxt} {ta tb te to : TE} {δ : List Sl} {α β γ L : Type} {ΔL : L → List Sl}
theorem st_parM [Py α] [Py γ] [Pa β] {i j : Nat} {m : W (List α)} {n : W γ} (h : EvF Γ ta δ m) (k : EvT Γ tb δ n) (hi : i < δ.length := by first | decide | simp) (hj : j < δ.length := by first | decide | simp) :
    StT (β := β) (L := L) Γ (tPar i j (tCons ta (tCons tb tNil))) δ ((m >>= fun a => n >>= fun b => pure (T2.mk a b)) >>= fun a => pure (.nx a)) (fun t => (δ.set i (.mu α t.a)).set j (.fx γ t.b)) ΔL := fun σ A H D I q => by
  refine h σ A H _ I (m.mono (fun a q p vs A1 H1 np mp bp s1 hp k1 => ?_) (fun _ h => h) q)
  refine k σ A1 H1 _ (I.step s1) (n.mono (fun b q y A2 H2 s2 r2 => ?_) (fun _ h => h) q)
  have b2 : ¬ A2.B p := fun z => (s2.nb p z).elim bp fun y => by rw [hp] at y; cases y
  exact ⟨.ref p, y, rfl, q _ A2 H2 (I.stepMv (s1.trans s2)) ((I.putM np (s2.ms p mp) b2 (s1.trans s2) (s2.k p _ bp hp) (k1.imp fun _ _ r => Pa.st r s1.d s2) hi).fx r2 (by rw [List.length_set]; exact hj))⟩
theorem st_parMM [Py α] [Py γ] [Pa β] {i j : Nat} {m : W (List α)} {n : W (List γ)} (h : EvF Γ ta δ m) (k : EvF Γ tb δ n) (hi : i < δ.length := by first | decide | simp) (hj : j < δ.length := by first | decide | simp) :
    StT (β := β) (L := L) Γ (tPar i j (tCons ta (tCons tb tNil))) δ ((m >>= fun a => n >>= fun b => pure (T2.mk a b)) >>= fun a => pure (.nx a)) (fun t => (δ.set i (.mu α t.a)).set j (.mu γ t.b)) ΔL := fun σ A H D I q => by
  refine h σ A H _ I (m.mono (fun a q p vs A1 H1 np mp bp s1 hp k1 => ?_) (fun _ h => h) q)
  refine k σ A1 H1 _ (I.step s1) (n.mono (fun b q p2 vs2 A2 H2 np2 mp2 bp2 s2 hp2 k2 => ?_) (fun _ h => h) q)
  exact ⟨.ref p, .ref p2, rfl, q _ A2 H2 (I.stepMv (s1.trans s2)) ((I.putM np mp bp s1 hp k1 hi).putM np2 mp2 bp2 s2 hp2 k2 (by rw [List.length_set]; exact hj))⟩
/-! ### xs.index(x) -/
theorem u65 {k : Nat} {A : Around} (r : Room k A) : A.units + 65 < cLine := by have := r.un; omega
def ixF [Pa α] [Dt α] (xs : List α) (x : α) : Option Nat := xs.findIdx? fun z => PyData.eqv (Dt.d z) (Dt.d x)
theorem ev_index [Py α] [Dt α] {m : W (Bor α)} {n : W α} (h : EvT Γ to δ m) (k : EvT Γ te δ n) : EvT Γ (tBM Γ.G.K "list" (rIndexD Γ.G.K) to (tCons te tNil)) δ (m >>= fun xs => n >>= fun x => W.need (shd xs ∧ shd x) >>= fun _ => W.get (ixF xs.l x) >>= fun j => (pure (j : Int) : W Int)) := fun σ A H Q I q => by
  refine h σ A H _ I (m.mono (fun xs q v A1 H1 s1 r1 => ?_) (fun _ h => h) q)
  refine ⟨?_, k σ A1 H1 _ (I.step s1) (n.mono (fun x q u A2 H2 s2 r2 => ?_) (fun _ h => h) q)⟩
  · obtain ⟨p, vs, rfl, ⟨_, hp⟩, _⟩ := id r1
    exact .inl ⟨rfl, vs, SqL.of hp⟩
  · obtain ⟨⟨h1, h2⟩, j, ej, q⟩ := q
    have r3 : rep Γ.G A2 H2 v xs := Pa.st r1 s1.d s2
    have d3 := Dt.ok r3
    obtain ⟨p, vs, rfl, _, _⟩ := id r3
    obtain ⟨hj, e1, e2⟩ := List.findIdx?_eq_some_iff_getElem.mp ej
    refine ⟨p, u, Dt.d x, xs.l.map Dt.d, j, Dt.d (xs.l[j]), rfl, rfl, d3, Dt.ok r2, h1, h2, by rw [List.getElem?_map, List.getElem?_eq_getElem hj]; rfl, e1, fun m z hm hz => ?_, q _ A2 H2 (s1.trans s2) rfl⟩
    rw [List.getElem?_map, Option.map_eq_some_iff] at hz
    obtain ⟨a, ea, rfl⟩ := hz
    obtain ⟨hl, rfl⟩ := List.getElem?_eq_some_iff.mp ea
    exact Bool.eq_false_iff.mpr (e2 m hm)
end
section
variable {Γ : Cxt} {ta tb : TE} {δ : List Sl} {α β γ L : Type} {ΔL : L → List Sl}
theorem st_asgM [Py α] [Py γ] [Pa β] {i j : Nat} {m : W (List α)} {n : W γ} (h : EvF Γ ta δ m) (k : EvT Γ tb δ n) (hi : i < δ.length := by first | decide | simp) (hj : j < δ.length := by first | decide | simp) :
    StT (β := β) (L := L) Γ (tAsg (tTup (tCons ta (tCons tb tNil))) (gTup Γ.G.K 2 (gCons (gName i) (gCons (gName j) gNil)))) δ ((m >>= fun a => n >>= fun b => pure (T2.mk a b)) >>= fun a => pure (.nx a)) (fun t => (δ.set i (.mu α t.a)).set j (.fx γ t.b)) ΔL := fun σ A H D I q => by
  refine h σ A H _ I (m.mono (fun a q p vs A1 H1 np mp bp s1 hp k1 => ?_) (fun _ h => h) q)
  refine k σ A1 H1 _ (I.step s1) (n.mono (fun b q y A2 H2 s2 r2 => ?_) (fun _ h => h) q)
  refine ⟨by show 2 ≤ sizeLine; decide, fun t nt => ?_⟩
  have s3 : St A2 H2 A2 (upd H2 t (.tup [.ref p, y])) := St.new s2.d nt
  have s23 := s2.trans s3
  have b2 : ¬ A2.B p := fun z => (s2.nb p z).elim bp fun y => by rw [hp] at y; cases y
  refine ⟨t, [.ref p, y], rfl, SqT.of upd_same, rfl, .ref p, [y], rfl, y, [], rfl, rfl, ?_⟩
  exact q _ A2 _ (I.stepMv (s1.trans s23)) ((I.putM np (s2.ms p mp) b2 (s1.trans s23) (s23.k p _ bp hp) (k1.imp fun _ _ r => Pa.st r s1.d s23) hi).fx (Pa.st r2 s2.d s3) (by rw [List.length_set]; exact hj))
end
end TW
set_option Elab.async false
set_option maxRecDepth 100000
set_option maxHeartbeats 4000000
set_option linter.all false
set_option autoImplicit false
/-! TW16: the end of a law -/
namespace TW
open Pa (rep)
open PaL (repL)
open PySem PySem.Spec PyProof.Rows L2 My
def sp_law (K : PySem.W.Frag) : Sp := fun vs H Q _ => ∃ (a : Addr) (ns : List Int), vs = [.ref a] ∧ SqL K H a (ns.map V.int) ∧ ns.length ≤ 63 ∧ ∀ H', Q (.bl true) H'
theorem law_fn {P : Program} {w : World} {K : PySem.W.Frag} {mg : Str → Option Value} {base : Heap} {cls : Nat → Addr} {k : Nat} {f : Addr} {fd : FuncData} {ps : List Str} {m : Scr → W Bool} (F : FnOk P w K mg base (L2.CX P w) k f fd ps (SpF ⟨K, cls⟩ (fun t : Cn Scr Nl => m t.a)))
    (h : ∀ ns : List Int, ns.length ≤ 63 → (m ⟨ns⟩).run (fun b => b = true) fun _ => False) : FnOk P w K mg base CX0 k f fd ps (sp_law K) := by
  refine fn_cx0 F fun vs H Q E ⟨a, ns, e, hS, hl, q⟩ => ?_
  subst e
  refine ⟨⟨fun _ => False, fun _ => False⟩, ⟨⟨ns⟩, ⟨⟩⟩, ⟨fun _ z => z.elim, fun _ z => z.elim, fun _ z => z⟩, ⟨_, [], rfl, ⟨a, rfl, ?_⟩, rfl⟩, (m ⟨ns⟩).mono (fun b e v A' H' _ r => ?_) (fun _ z => z.elim) (h ns hl)⟩
  · exact hS.imp (fun h => ⟨fun z => z, h⟩) (fun h => .inr h)
  · rw [show v = V.bl b from r, e]
    exact q H'
theorem binds_drop {K : PySem.W.Frag} {fd : FuncData} {ps : List Str} {dv : V} (h : ∃ ds, Vals ([dv].drop 1) ds ∧ Binds K fd ps ds) : Binds K fd ps [] := by
  obtain ⟨ds, v, b⟩ := h
  cases v
  exact b
theorem fund_of {K : PySem.W.Frag} {x qual : Str} {st : Stmt} {f T : Addr} {oc : Value} {od an : Option Addr} {osl tsl : Array (Option Value)} {kV doc pm cdv ct tc : Value} {td : Option Addr} {tn : Nat} {dv : V} {du : Value} (r : RelV dv du)
    (l : K.lookup f = some ⟨oc, od, .func (PySem.W.fnOf x qual (defArgs st) (defBody st) (defScope st) (.ref T) kV doc pm an cdv ct), osl⟩) (c : PySem.W.codeIn K cdv qual = true) (k : PySem.W.keepIn K (.ref f) = true) (d : K.lookup T = some ⟨tc, td, .seq #[du] tn, tsl⟩) :
    FunD K x qual (defArgs st) (defBody st) (defScope st) [dv] [] f (PySem.W.fnOf x qual (defArgs st) (defBody st) (defScope st) (.ref T) kV doc pm an cdv ct) :=
  ⟨⟨oc, od, .ref T, kV, doc, pm, an, cdv, ct, osl, rfl, l, c, .inr ⟨(fun z => nomatch z), T, _, [du], tn, rfl, d, rfl, .cons r .nil⟩, .inl rfl⟩, k⟩
theorem fun_of {K : PySem.W.Frag} {x qual : Str} {st : Stmt} {f : Addr} {oc : Value} {od an : Option Addr} {osl : Array (Option Value)} {kV doc pm cdv ct : Value}
    (l : K.lookup f = some ⟨oc, od, .func (PySem.W.fnOf x qual (defArgs st) (defBody st) (defScope st) .none kV doc pm an cdv ct), osl⟩) (c : PySem.W.codeIn K cdv qual = true) (k : PySem.W.keepIn K (.ref f) = true) :
    Fun K x qual st f (PySem.W.fnOf x qual (defArgs st) (defBody st) (defScope st) .none kV doc pm an cdv ct) := ⟨⟨oc, od, kV, doc, pm, an, cdv, ct, osl, rfl, l, c⟩, k⟩
theorem ktup {K : PySem.W.Frag} {a : Addr} {td : Option Addr} {its : List Value} {n : Nat} {sl : Array (Option Value)} {xs : List V} (h : K.lookup a = some ⟨.type "tuple", td, .seq its.toArray n, sl⟩) (hz : its.length ≤ 60) (v : Vals xs its) : SqT K (fun _ => none) a xs :=
  .inr ⟨_, _, _, h, rfl, rfl, by rw [List.size_toArray, sizeLine_eq]; omega, v⟩
end TW
set_option Elab.async false
set_option maxRecDepth 100000
set_option maxHeartbeats 4000000
set_option linter.all false
set_option autoImplicit false
/-! TW17: running programs of values -/
namespace TW
open Pa (rep)
open PaL (repL)
open PySem
section
variable {α β γ S L : Type}
/-- a program that gives a value, whatever is wished -/
def Gv (m : W α) (a : α) : Prop := ∀ (P : α → Prop) (E : Exn → Prop), P a → m.run P E
theorem Gv.ret {a : α} : Gv (pure a) a := fun _ _ h => h
theorem Gv.bind {m : W α} {f : α → W β} {a : α} {b : β} (h : Gv m a) (k : Gv (f a) b) : Gv (m >>= f) b := fun P E q => h _ _ (k P E q)
theorem Gv.need {p : Prop} (h : p) : Gv (W.need p) () := fun _ _ q => ⟨h, q⟩
theorem Gv.need' {p : Prop} {f : Unit → W β} {b : β} (h : p) (k : Gv (f ()) b) : Gv (W.need p >>= f) b := (Gv.need h).bind k
theorem Gv.get {o : Option α} {a : α} (h : o = some a) : Gv (W.get o) a := fun _ _ q => ⟨a, h, q⟩
theorem Gv.quiet {m : W α} {a : α} (h : Gv m a) : Gv m.q a := fun P E q => h _ _ q
theorem Gv.cast {m : W α} {a b : α} (h : Gv m a) (e : a = b) : Gv m b := e ▸ h
theorem Gv.seq {m : W (Res S β L)} {f : S → W (Res γ β L)} {s : S} {r : Res γ β L} (h : Gv m (.nx s)) (k : Gv (f s) r) : Gv (seqW m f) r := h.bind k
theorem Gv.fR {m : W (Res S β L)} {b : β} (h : Gv m (.rt b)) : Gv (finR m) b := h.bind Gv.ret
theorem Gv.fO {m : W (Res S (Option β) L)} {b : Option β} (h : Gv m (.rt b)) : Gv (finO m) b := h.bind Gv.ret
theorem Gv.fO' {m : W (Res S (Option β) L)} {s : S} (h : Gv m (.nx s)) : Gv (finO m) none := h.bind Gv.ret
theorem Gv.fN {m : W (Res S Unit L)} {s : S} (h : Gv m (.nx s)) : Gv (finN m) () := h.bind Gv.ret
theorem Gv.fI {m : W (Res α Unit Empty)} {a : α} (h : Gv m (.nx a)) : Gv (finI m) a := h.bind Gv.ret
theorem Gv.ifT {c : W Bool} {m n : W α} {a : α} (h : Gv c true) (k : Gv m a) : Gv (ifW c m n) a := h.bind k
theorem Gv.ifF {c : W Bool} {m n : W α} {a : α} (h : Gv c false) (k : Gv n a) : Gv (ifW c m n) a := h.bind k
theorem Gv.ite {c : W Bool} {m n : W α} {b : Bool} {a : α} (h : Gv c b) (k : b = true → Gv m a) (l : b = false → Gv n a) : Gv (ifW c m n) a := by
  cases b with
  | true => exact h.ifT (k rfl)
  | false => exact h.ifF (l rfl)
theorem Gv.comp {t : α → W Bool} {e : α → W β} {tb : α → Bool} {eb : α → β} : ∀ {xs : List α}, (∀ x ∈ xs, Gv (t x) (tb x)) → (∀ x ∈ xs, tb x = true → Gv (e x) (eb x)) → Gv (compW t e xs) ((xs.filter tb).map eb)
  | [], _, _ => Gv.ret
  | x :: xs, ht, he => by
    have ih := Gv.comp (t := t) (e := e) (tb := tb) (eb := eb) (xs := xs) (fun y hy => ht y (List.mem_cons_of_mem _ hy)) fun y hy => he y (List.mem_cons_of_mem _ hy)
    refine (ht x List.mem_cons_self).quiet.bind ?_
    cases hb : tb x with
    | true =>
      rw [if_pos rfl, List.filter_cons_of_pos hb]
      exact (he x List.mem_cons_self hb).quiet.bind (ih.bind Gv.ret)
    | false =>
      rw [if_neg Bool.false_ne_true, List.filter_cons_of_neg (by rw [hb]; exact Bool.false_ne_true)]
      exact ih
theorem Gv.all {e : α → W β} {eb : α → β} {xs : List α} (he : ∀ x ∈ xs, Gv (e x) (eb x)) : Gv (compW (fun _ => (pure true : W Bool)) e xs) (xs.map eb) := by
  have h := Gv.comp (t := fun _ => (pure true : W Bool)) (tb := fun _ => true) (fun x _ => Gv.ret) fun x hx _ => he x hx
  rwa [List.filter_eq_self.mpr fun _ _ => rfl] at h
/-- a loop that goes through to its end -/
theorem Gv.for {f : α → S → W (Res S β S)} {g : S → α → S} : ∀ {xs : List α} {s : S}, (∀ x s, x ∈ xs → Gv (f x s) (.nx (g s x))) → Gv (forW (L := L) f xs s) (.nx (xs.foldl g s))
  | [], _, _ => Gv.ret
  | x :: xs, s, h => (h x s List.mem_cons_self).bind (Gv.for (xs := xs) fun y s hy => h y s (List.mem_cons_of_mem _ hy))
/-- what a loop keeps true -/
theorem run_for {f : α → S → W (Res S β S)} {P : Res S β L → Prop} {E : Exn → Prop} (I : Nat → S → Prop) : ∀ (xs : List α) (i : Nat) (s : S), I i s → (∀ j x s, xs[j]? = some x → I (i + j) s → (f x s).run (fun r => match r with
    | .nx s' => I (i + j + 1) s' | .ct s' => I (i + j + 1) s' | .bk s' => P (.nx s') | .rt b => P (.rt b)) E) → (∀ s, I (i + xs.length) s → P (.nx s)) → (forW (L := L) f xs s).run P E
  | [], i, s, h0, _, hd => hd s h0
  | x :: xs, i, s, h0, hs, hd => by
    refine (f x s).mono (fun r q => ?_) (fun _ h => h) (hs 0 x s rfl h0)
    have next : ∀ s', I (i + 1) s' → (forW (L := L) f xs s').run P E := fun s' h => run_for I xs (i + 1) s' h (fun j y s hy hi => by
      have := hs (j + 1) y s (by simpa using hy) (by rwa [show i + (j + 1) = i + 1 + j by omega])
      rwa [show i + (j + 1) + 1 = i + 1 + j + 1 by omega] at this) fun s hi => hd s (by rw [List.length_cons]; rwa [show i + (xs.length + 1) = i + 1 + xs.length by omega])
    cases r with
    | nx s' => exact next s' q
    | ct s' => exact next s' q
    | bk s' => exact q
    | rt b => exact q
end
end TW
namespace TW
open Pa (rep)
open PaL (repL)
open PySem
section
variable {α β γ S L : Type}
theorem pb (a : α) (f : α → W β) : ((pure a : W α) >>= f) = f a := rfl
theorem ba (m : W α) (f : α → W β) (g : β → W γ) : ((m >>= f) >>= g) = (m >>= fun a => f a >>= g) := rfl
theorem sq_nx (s : S) (f : S → W (Res γ β L)) : seqW (pure (.nx s)) f = f s := rfl
theorem sq_rt (b : β) (f : S → W (Res γ β L)) : seqW (pure (.rt b) : W (Res S β L)) f = pure (.rt b) := rfl
theorem sq_b (m : W α) (g : α → W (Res S β L)) (f : S → W (Res γ β L)) : seqW (m >>= g) f = m >>= fun a => seqW (g a) f := rfl
theorem sq_i (c : Prop) [Decidable c] (m n : W (Res S β L)) (f : S → W (Res γ β L)) : seqW (if c then m else n) f = if c then seqW m f else seqW n f := by split <;> rfl
theorem sq_f (f : S → W (Res γ β L)) : seqW (W.fail : W (Res S β L)) f = W.fail := rfl
theorem fR_rt (b : β) : finR (pure (.rt b) : W (Res S β L)) = pure b := rfl
theorem fR_b (m : W α) (g : α → W (Res S β L)) : finR (m >>= g) = m >>= fun a => finR (g a) := rfl
theorem fR_i (c : Prop) [Decidable c] (m n : W (Res S β L)) : finR (if c then m else n) = if c then finR m else finR n := by split <;> rfl
theorem fR_f : finR (W.fail : W (Res S β L)) = W.fail := rfl
theorem fN_nx (s : S) : finN (pure (.nx s) : W (Res S Unit L)) = pure () := rfl
theorem fN_b (m : W α) (g : α → W (Res S Unit L)) : finN (m >>= g) = m >>= fun a => finN (g a) := rfl
theorem fN_i (c : Prop) [Decidable c] (m n : W (Res S Unit L)) : finN (if c then m else n) = if c then finN m else finN n := by split <;> rfl
theorem fN_f : finN (W.fail : W (Res S Unit L)) = W.fail := rfl
theorem fI_nx (a : α) : finI (pure (.nx a) : W (Res α Unit Empty)) = pure a := rfl
theorem fI_b {δ : Type} (m : W δ) (g : δ → W (Res α Unit Empty)) : finI (m >>= g) = m >>= fun a => finI (g a) := rfl
theorem fI_i (c : Prop) [Decidable c] (m n : W (Res α Unit Empty)) : finI (if c then m else n) = if c then finI m else finI n := by split <;> rfl
theorem fI_f : finI (W.fail : W (Res α Unit Empty)) = W.fail := rfl
theorem i_b (c : Prop) [Decidable c] (m n : W α) (f : α → W β) : ((if c then m else n) >>= f) = if c then m >>= f else n >>= f := by split <;> rfl
theorem q_b (m : W α) (f : α → W β) : (m >>= f).q = m.q >>= fun a => (f a).q := rfl
theorem f_b (f : α → W β) : ((W.fail : W α) >>= f) = W.fail := rfl
theorem need_t (p : Prop) (h : p) (f : Unit → W β) : (W.need p >>= f) = f () := by
  apply W.ext
  funext P E
  exact propext ⟨fun ⟨_, q⟩ => q, fun q => ⟨h, q⟩⟩
end
end TW
set_option Elab.async false
set_option maxRecDepth 100000
set_option maxHeartbeats 4000000
set_option linter.all false
set_option autoImplicit false
/-! TW18: values of any kind; what a try catches -/
namespace TW
open Pa (rep)
open PaL (repL)
open PySem PySem.Spec PyProof.Rows L2 My
/-! ### values of any kind -/
def D.int? : D → Option Int
  | .int i => some i
  | _ => none
def D.bl? : D → Option Bool
  | .bl i => some i
  | _ => none
def D.str? : D → Option Str
  | .str i => some i
  | _ => none
def D.lst? : D → Option (List D)
  | .lst i => some i
  | _ => none
def D.tup? : D → Option (List D)
  | .tup i => some i
  | _ => none
/-- the objects among them are of these classes -/
def D.okOb (L : List Nat) : D → Prop
  | .ob n => n ∈ L
  | _ => True
def D.ty (cls : Nat → Addr) : D → Value
  | .non => .type "NoneType"
  | .bl _ => .type "bool"
  | .int _ => .type "int"
  | .str _ => .type "str"
  | .lst _ => .type "list"
  | .tup _ => .type "tuple"
  | .ob n => .ref (cls n)
theorem tyD {G : Gx} {A : Av} {H : Hp} {v : V} {L : List Nat} (c : ∀ n ∈ L, CTy G.K (G.cls n)) : ∀ {d : D}, d.okOb L → rep G A H v d → TyX G.K H v (d.ty G.cls)
  | .non, _, h => by have h : repD _ _ _ _ _ := h; unfold repD at h; rw [h]; exact .base .non
  | .bl _, _, h => by have h : repD _ _ _ _ _ := h; unfold repD at h; rw [h]; exact .base (.bl _)
  | .int _, _, h => by have h : repD _ _ _ _ _ := h; unfold repD at h; rw [h]; exact .base (.int _)
  | .str _, _, h => by have h : repD _ _ _ _ _ := h; unfold repD at h; rw [h]; exact .base (.str _)
  | .lst xs, _, h => by
    have h : repD _ _ _ _ _ := h
    unfold repD at h
    obtain ⟨p, vs, rfl, ⟨_, h⟩, _⟩ := h
    exact .base (.lst h)
  | .tup xs, _, h => by
    have h : repD _ _ _ _ _ := h
    unfold repD at h
    obtain ⟨p, vs, rfl, h, _⟩ := h
    exact tyx_tup h
  | .ob n, o, h => by
    have h : repD _ _ _ _ _ := h
    unfold repD at h
    obtain ⟨a, dx, ws, rfl, _, h⟩ := h
    have c := c n o
    exact .base (.ins h c.cl c.ha c.hn c.tk c.hm)
section
variable {Γ : Cxt} {te ta tb : TE} {δ : List Sl} {α β γ : Type}
theorem ev_toD [Pa α] [ToD α] {m : W α} (h : EvT Γ te δ m) : EvT (α := D) Γ te δ (m >>= fun a => pure (ToD.d a)) := ev_as ToD.d (fun _ _ _ _ _ r => ToD.ok r) h
theorem repD_int {G : Gx} {A : Av} {H : Hp} {v : V} {d : D} {i : Int} (r : rep G A H v d) (e : d.int? = some i) : v = .int i := by
  cases d <;> cases e
  have h : repD _ _ _ _ _ := r
  unfold repD at h
  exact h
theorem repD_str {G : Gx} {A : Av} {H : Hp} {v : V} {d : D} {i : Str} (r : rep G A H v d) (e : d.str? = some i) : v = .str i := by
  cases d <;> cases e
  have h : repD _ _ _ _ _ := r
  unfold repD at h
  exact h
theorem repD_bl {G : Gx} {A : Av} {H : Hp} {v : V} {d : D} {i : Bool} (r : rep G A H v d) (e : d.bl? = some i) : v = .bl i := by
  cases d <;> cases e
  have h : repD _ _ _ _ _ := r
  unfold repD at h
  exact h
theorem ev_dInt {m : W D} (h : EvT Γ te δ m) : EvT (α := Int) Γ te δ (m >>= fun d => W.get d.int?) := fun σ A H Q I q =>
  h σ A H _ I (m.mono (fun d q v A1 H1 s1 r1 => by obtain ⟨i, e, q⟩ := q; exact q v A1 H1 s1 (repD_int r1 e)) (fun _ h => h) q)
theorem ev_dStr {m : W D} (h : EvT Γ te δ m) : EvT (α := Str) Γ te δ (m >>= fun d => W.get d.str?) := fun σ A H Q I q =>
  h σ A H _ I (m.mono (fun d q v A1 H1 s1 r1 => by obtain ⟨i, e, q⟩ := q; exact q v A1 H1 s1 (repD_str r1 e)) (fun _ h => h) q)
theorem ev_dBl {m : W D} (h : EvT Γ te δ m) : EvT (α := Bool) Γ te δ (m >>= fun d => W.get d.bl?) := fun σ A H Q I q =>
  h σ A H _ I (m.mono (fun d q v A1 H1 s1 r1 => by obtain ⟨i, e, q⟩ := q; exact q v A1 H1 s1 (repD_bl r1 e)) (fun _ h => h) q)
/-- isinstance of a value of any kind -/
theorem ev_isiD {m : W D} {L : List Nat} {c : V} {u : Value} (kb : D → Bool) (cv : ClsV c u) (ct : ∀ n ∈ L, CTy Γ.G.K (Γ.G.cls n)) (hb : ∀ d : D, d.okOb L → PySem.W.kitOne Γ.G.K (d.ty Γ.G.cls) u = some (kb d)) (h : EvT Γ te δ m) :
    EvT Γ (tCB (rIsi Γ.G.K) (tCons te (tCons (tC c) tNil))) δ (m >>= fun d => W.need (d.okOb L) >>= fun _ => (pure (kb d) : W Bool)) := fun σ A H Q I q => by
  refine h σ A H _ I (m.mono (fun a q v A1 H1 s1 r => ?_) (fun _ h => h) q)
  exact ⟨v, c, _, u, kb a, rfl, cv, tyD ct q.1 r, hb a q.1, q.2 _ A1 H1 s1 rfl⟩
theorem ev_isi2D {m : W D} {L : List Nat} {c d : V} {u w : Value} (kb : D → Bool) (cv : ClsV c u) (dv : ClsV d w) (ct : ∀ n ∈ L, CTy Γ.G.K (Γ.G.cls n)) (hb : ∀ d : D, d.okOb L → PySem.W.kitAny Γ.G.K (d.ty Γ.G.cls) [u, w] = some (kb d)) (h : EvT Γ te δ m) :
    EvT Γ (tCB (rIsiT Γ.G.K) (tCons te (tCons (tTup (tCons (tC c) (tCons (tC d) tNil))) tNil))) δ (m >>= fun a => W.need (a.okOb L) >>= fun _ => (pure (kb a) : W Bool)) := fun σ A H Q I q => by
  refine h σ A H _ I (m.mono (fun a q v A1 H1 s1 r => ?_) (fun _ h => h) q)
  refine ⟨by show 2 ≤ sizeLine; decide, fun p n => ?_⟩
  have s2 : St A1 H1 A1 (upd H1 p (.tup [c, d])) := St.new s1.d n
  exact ⟨v, p, [c, d], _, [u, w], kb a, rfl, upd_same, .cons cv (.cons dv .nil), tyD ct q.1 (Pa.st r s1.d s2), hb a q.1, q.2 _ A1 _ (s1.trans s2) rfl⟩
end
/-! ### isinstance of a caught error -/
def rIsX (K : PySem.W.Frag) (a : Addr) (cls : Value) (d : Option Addr) : List V → Hp → VK → Prop := fun xs H Q => ∃ (C : Addr) (c : V) (cv : Value) (b : Bool), cls = .ref C ∧ ExcC K C ∧ (d = none ∨ ∃ dd fs, d = some dd ∧ H dd = some (.xd fs)) ∧
  xs = [.ref a, c] ∧ ClsV c cv ∧ PySem.W.kitOne K (.ref C) cv = some b ∧ Q (.bl b) H
theorem call_isX {X : Cx} {a : Addr} {cls : Value} {d : Option Addr} {oe : PySem.Obj} {pn : List (Addr × PySem.Obj)} (hz : Zc cls d oe) (hf : ∃ vs, oe.data = .fields vs) : CallR (X.suite a ((a, oe) :: pn)) (.builtin "isinstance") (rIsX X.K a cls d) := by
  intro pins s σ H xs us Q I r h
  obtain ⟨C, c, cv, b, ec, hC, hd, rfl, hcv, e, q⟩ := h
  obtain ⟨u, us', eu, ru, r2⟩ : ∃ u us', us = u :: us' ∧ RelV (.ref a) u ∧ Vals [c] us' := by
    cases r with
    | cons rx rr => exact ⟨_, _, rfl, rx, rr⟩
  obtain ⟨w, rfl, rw'⟩ := vals1 r2
  subst eu
  cases (show u = Value.ref a from ru)
  cases hcv.eq rw'
  obtain ⟨hget, _⟩ := I.pin (a, oe) (List.mem_append.mpr (.inl List.mem_cons_self))
  obtain ⟨vs, hv⟩ := hf
  obtain ⟨z1, z2⟩ := hz
  have nc : PySem.W.notCls oe = true := by unfold PySem.W.notCls; rw [hv] <;> rfl
  obtain ⟨od, J⟩ : ∃ od : Option PySem.Obj, PySem.W.InstAt s.heap a oe C od := by
    rcases hd with e0 | ⟨dd, fs, e0, hh⟩
    · rw [e0] at z2
      exact ⟨none, hget, by rw [z1, ec], nc, by rw [z2]; trivial⟩
    · rw [e0] at z2
      have hx : ObjOk X.prog X.w H s.heap dd (.xd fs) := I.hok dd _ hh
      obtain ⟨mA, hns, _⟩ := hx
      obtain ⟨o, ho, _⟩ := lookIn_ns hns
      exact ⟨some o, hget, by rw [z1, ec], nc, by rw [z2]; exact ho⟩
  obtain ⟨cd, hcd, _⟩ := PySem.W.any_some hC.hd
  exact PySem.W.kia_one (PySem.W.kitx_exc (by rw [hcd]; rfl) hC.hg hC.hk hC.hs hC.ha hC.hn hC.ht hC.hm) I.kIn J e (fun z => nomatch z) fun tk => ⟨.bl b, H, I.kept (t' := tk) fun _ _ z => z, rfl, q⟩
/-- a caught error, as the value of a slot -/
structure ExT (cls : Value) (d : Option Addr) (a : Addr) where
  e : Exn
theorem ExR.mv {G : Gx} {A A' : Av} {H H' : Hp} {e : Exn} {cls : Value} {d : Option Addr} (h : ExR G A H e cls d) (m : Mv A H A' H') : ExR G A' H' e cls d := by
  obtain ⟨c, fs⟩ := e
  obtain ⟨h1, h2⟩ := h
  refine ⟨h1, ?_⟩
  cases fs with
  | nil => exact h2
  | cons f fs =>
    obtain ⟨dx, vs, e, n, hh, k⟩ := h2
    exact ⟨dx, vs, e, fun z => (m.m dx z).elim n (fun y => by rw [hh] at y; cases y), m.k dx _ n hh, k.imp fun _ _ r => ⟨r.1, Py.mv r.2 m⟩⟩
instance {cls : Value} {d : Option Addr} {a : Addr} : Py (ExT cls d a) where
  rep := fun G A H v x => v = .ref a ∧ ExR G A H x.e cls d
  st := fun h dm s => ⟨h.1, h.2.mv (s.mv dm)⟩
  mv := fun h m => ⟨h.1, h.2.mv m⟩
section
variable {Γ : Cxt} {te ta tb : TE} {δ : List Sl} {α β γ : Type} {cls : Value} {d : Option Addr} {a : Addr} {e : Exn} {i : Nat}
theorem ExR.dict {G : Gx} {A : Av} {H : Hp} (h : ExR G A H e cls d) : d = none ∨ ∃ dd fs, d = some dd ∧ H dd = some (.xd fs) := by
  obtain ⟨c, fs⟩ := e
  obtain ⟨h1, h2⟩ := h
  cases fs with
  | nil => exact .inl h2
  | cons f fs =>
    obtain ⟨dx, vs, e, n, hh, k⟩ := h2
    exact .inr ⟨dx, vs, e, hh⟩
theorem ev_isX {L : List Nat} {c : V} {u : Value} (kb : Nat → Bool) (cv : ClsV c u) (hb : ∀ n ∈ L, ExcC Γ.G.K (Γ.G.cls n) ∧ PySem.W.kitOne Γ.G.K (.ref (Γ.G.cls n)) u = some (kb n)) (h : δ[i]? = some (.fx (ExT cls d a) ⟨e⟩) := by rfl) :
    EvT Γ (tCB (rIsX Γ.G.K a cls d) (tCons (tVar i) (tCons (tC c) tNil))) δ (W.need (e.cls ∈ L) >>= fun _ => (pure (kb e.cls) : W Bool)) := fun σ A H Q I q => by
  obtain ⟨o, e1, v, rfl, rfl, r⟩ := I.at_ _ _ h
  obtain ⟨hm, q⟩ := q
  obtain ⟨hx, hk⟩ := hb _ hm
  exact ⟨_, e1, _, c, u, kb e.cls, r.1, hx, r.dict, rfl, cv, hk, q _ A H (St.refl I.dom) rfl⟩
def Exn.fld (e : Exn) (f : Str) : Option D := e.fs.lookup f
theorem lk_all2 {R : V → D → Prop} {f : Str} : ∀ {vs : List (Str × V)} {fs : List (Str × D)}, All2 (fun (p : Str × V) (q : Str × D) => p.1 = q.1 ∧ R p.2 q.2) vs fs → ∀ {x : D}, fs.lookup f = some x → ∃ v, vs.lookup f = some v ∧ R v x
  | _, _, .nil, x, e => by cases e
  | _, _, @All2.cons _ _ _ p q vs fs ⟨h1, h2⟩ t, x, e => by
    obtain ⟨p1, p2⟩ := p
    obtain ⟨q1, q2⟩ := q
    have h1 : p1 = q1 := h1
    subst h1
    rw [List.lookup_cons] at e ⊢
    cases hq : f == p1 with
    | true =>
      rw [hq] at e
      cases e
      exact ⟨p2, rfl, h2⟩
    | false =>
      rw [hq] at e
      exact lk_all2 t e
/-- e.f, where the class of e is told -/
theorem ev_xf {n : Nat} {f : Str} (h : δ[i]? = some (.fx (ExT cls d a) ⟨e⟩) := by rfl) : EvT (α := D) Γ (tXf a cls d (Γ.G.cls n) f (tVar i)) δ (W.need (e.cls = n) >>= fun _ => W.get (e.fld f)) := fun σ A H Q I q => by
  obtain ⟨o, e1, v, rfl, rfl, r⟩ := I.at_ _ _ h
  obtain ⟨hn, x, hx, q⟩ := q
  obtain ⟨c, fs⟩ := e
  obtain ⟨r1, r2⟩ := r
  have hn : c = n := hn
  subst hn
  unfold Exn.fld at hx
  cases fs with
  | nil => cases hx
  | cons p fs =>
    obtain ⟨dx, vs, ed, nm, hh, k⟩ := r2
    obtain ⟨v, ev, rv⟩ := lk_all2 k hx
    exact ⟨_, e1, rfl, r1, dx, vs, v, ed, hh, ev, q v A H (St.refl I.dom) rv⟩
end
end TW
set_option Elab.async false
set_option maxRecDepth 100000
set_option maxHeartbeats 4000000
set_option linter.all false
set_option autoImplicit false
/-! TW19: try .. except -/
namespace TW
open Pa (rep)
open PaL (repL)
open PySem PySem.Spec PyProof.Rows L2 My
/-- what becomes of an error: the clauses one after the other; what is not told of a class is not known -/
def hdW {R : Type} (P : R → Prop) (E : Exn → Prop) : List ((Nat → Option Bool) × (Exn → W R)) → Exn → Prop
  | [], e => E e
  | (t, k) :: r, e => match t e.cls with
    | some true => (k e).run P fun _ => False
    | some false => hdW P E r e
    | none => False
theorem hdW_mono {R : Type} {P Q : R → Prop} {E F : Exn → Prop} (h : ∀ a, P a → Q a) (k : ∀ e, E e → F e) : ∀ (l : List ((Nat → Option Bool) × (Exn → W R))) (e : Exn), hdW P E l e → hdW Q F l e
  | [], e, q => k e q
  | (t, m) :: r, e, q => by
    unfold hdW at q ⊢
    cases ht : t e.cls with
    | none => rw [ht] at q; exact q
    | some b =>
      rw [ht] at q
      cases b with
      | true => exact (m e).mono h (fun _ z => z) q
      | false => exact hdW_mono h k r e q
def toR {S β L : Type} : Res S β Empty → Res S β L
  | .nx s => .nx s
  | .rt b => .rt b
  | .bk l => l.elim
  | .ct l => l.elim
def tryW {S β L : Type} (mb : W (Res S β Empty)) (hs : List ((Nat → Option Bool) × (Exn → W (Res S β L)))) : W (Res S β L) where
  run := fun P E => mb.run (fun r => P (toR r)) fun e => hdW P E hs e
  mono := fun h k q => mb.mono (fun r z => h _ z) (fun e z => hdW_mono h k hs e z) q
/-- a statement at these slots -/
def StA {S β L : Type} [Pa β] (Γ : Cxt) (σ0 : L2.St) (ts : TS) (δ : List Sl) (m : W (Res S β L)) (Δ : S → List Sl) (ΔL : L → List Sl) : Prop :=
  ∀ A H D, Iv Γ A H σ0 δ → m.run (Wish Γ A H D Δ ΔL) Γ.Er → ts D σ0 H
def Sl.isBo : Sl → Bool
  | @Sl.bo _ _ _ => true
  | _ => false
/-- a body by what it wishes of errors, and the clauses' wish -/
def tTry (tb : WX → TS) (wm : Ends → WX) : TS := fun D σ H => tb (wm D) D σ H
theorem pss_hold {X : Cx} {body : List Stmt} {t t' : TS} (h : PSs X body t) (e : t' = t) : PSs X body t' := e ▸ h
section
variable {X : Cx} {x n : Str} {c : Value} {i : Nat} {body suite : List Stmt} {b₀ : Stmt} {np pos pos' : Pos} {tb : WX → TS} {ts : Addr → Value → Option Addr → TS} {Wout : WX}
theorem ps_tryA (hs : X.stack = X.env :: X.outer) (hf : X.env.frame = some X.env.locals) (hN : X.N.Nodup) (hi : X.N[i]? = some n) (hln : X.env.kindOf n = some .local) (hc : Names X x c) (tk : Takes X Wout)
    (hb : ∀ (W : WX) (pn : List (Addr × PySem.Obj)) (xe : Value → Shared → Prop), Takes (X.tr pn xe) W → PSs (X.tr pn xe) body (tb W))
    (hsu : ∀ (a : Addr) (oe : PySem.Obj) (cls : Value) (d : Option Addr) (pn : List (Addr × PySem.Obj)), Zc cls d oe → (∃ vs, oe.data = .fields vs) → PSs (X.suite a ((a, oe) :: pn)) (b₀ :: suite) (ts a cls d)) :
    PS X (.Try body [.ExceptHandler (some (.Name x np)) (some n) (b₀ :: suite) pos'] [] [] pos) (tTry tb (wAs X.K c i ts Wout)) :=
  L2.ps_try_as hs hf hN hi hln hc tk (fun W pn xe t _ => hb W pn xe t) hsu
theorem ps_tryO (hs : X.stack = X.env :: X.outer) (hf : X.env.frame = some X.env.locals) (hc : Names X x c) (tk : Takes X Wout)
    (hb : ∀ (W : WX) (pn : List (Addr × PySem.Obj)) (xe : Value → Shared → Prop), Takes (X.tr pn xe) W → PSs (X.tr pn xe) body (tb W))
    (hsu : ∀ (a : Addr) (oe : PySem.Obj) (cls : Value) (d : Option Addr) (pn : List (Addr × PySem.Obj)), Zc cls d oe → (∃ vs, oe.data = .fields vs) → PSs (X.suite a ((a, oe) :: pn)) (b₀ :: suite) (ts a cls d)) :
    PS X (.Try body [.ExceptHandler (some (.Name x np)) none (b₀ :: suite) pos'] [] [] pos) (tTry tb (wOnly X.K c ts Wout)) :=
  L2.ps_try_only hs hf hc tk (fun W pn xe t _ => hb W pn xe t) hsu
end
section
variable {Γ : Cxt} {A A' : Av} {H H' : Hp} {σ σ' : L2.St} {δ δ' : List Sl} {S S1 β L α : Type} [Pa β] {Δ : S → List Sl} {ΔL : L → List Sl} {D : Ends} {E' : XK} {Er' : Exn → Prop} {i : Nat}
theorem StT.a {ts : TS} {m : W (Res S β L)} (h : StT Γ ts δ m Δ ΔL) : StA Γ σ ts δ m Δ ΔL := fun A H D I q => h σ A H D I q
theorem sta_of {ts ts' : TS} {m : W (Res S β L)} (h : StT Γ ts δ m Δ ΔL) (e : ∀ D H, ts D σ H → ts' D σ H) : StA Γ σ ts' δ m Δ ΔL := fun A H D I q => e D H (h σ A H D I q)
theorem sta_if {c : TT} {mc : W Bool} {m n : W (Res S β L)} {t u : TS} (hc : EvB Γ c δ mc) (h1 : StA Γ σ t δ m Δ ΔL) (h2 : StA Γ σ u δ n Δ ΔL) : StA Γ σ (tIfS c t u) δ (mc >>= fun b => if b = true then m else n) Δ ΔL := fun A H D I q => by
  refine hc σ A H _ I (mc.mono (fun b q A' H' s => ?_) (fun _ h => h) q)
  cases b with
  | true => exact iteT (h1 A' H' D (I.step s) (m.mono (fun r w => w.mv (I.stepMv s)) (fun _ h => h) q))
  | false => exact iteF (h2 A' H' D (I.step s) (n.mono (fun r w => w.mv (I.stepMv s)) (fun _ h => h) q))
theorem sta_seq {Δ1 : S1 → List Sl} {m : W (Res S1 β L)} {f : S1 → W (Res S β L)} {t u : TS} (h1 : StA Γ σ t δ m Δ1 ΔL) (h2 : ∀ s, StT Γ u (Δ1 s) (f s) Δ ΔL) : StA Γ σ (tSeq t u) δ (seqW m f) Δ ΔL := fun A H D I q => by
  refine h1 A H _ I (m.mono (fun r q => ?_) (fun _ h => h) q)
  cases r with
  | nx s => exact fun σ' A' H' k I' => h2 s σ' A' H' D I' ((f s).mono (fun r w => w.mv k) (fun _ h => h) q)
  | rt b => exact q
  | bk l => exact q
  | ct l => exact q
theorem Iv.fresh (I : Iv Γ A H σ δ) (no : (δ.all fun s => !s.own) = true) (er : ∀ e cls d A' H', Er' e → TW.St A H A' H' → ExR Γ.G A' H' e cls d → E' cls d H') : Iv ⟨Γ.G, A, H, E', Er'⟩ A H σ δ := by
  have no : ∀ (j : Nat) (s : Sl), δ[j]? = some s → s.own = false := fun j s e => by
    have := List.all_eq_true.mp no s (List.mem_of_getElem? e)
    simpa using this
  refine ⟨I.len, fun j s e => ?_, fun j k s t p hjk ej ek os ot pj pk => (by rw [no j s ej] at os; cases os), I.dom, St.refl I.dom, er⟩
  obtain ⟨o, e1, r⟩ := I.at_ j s e
  refine ⟨o, e1, ?_⟩
  have n := no j s e
  cases s with
  | un => trivial
  | @fx α _ a => exact r
  | @bo α _ xs =>
    obtain ⟨v, p, vs, e2, e3, ⟨n1, r1⟩, k⟩ := r
    exact ⟨v, p, vs, e2, e3, ⟨fun b => (I.st.nb p b).elim n1 (fun z => by rw [r1] at z; cases z), I.st.k p _ n1 r1⟩, k⟩
  | @mu α _ xs => cases n
  | @mp α _ q xs => cases n
  | ob C q fs => cases n
theorem Iv.back (I : Iv Γ A H σ δ) (I1 : Iv ⟨Γ.G, A, H, E', Er'⟩ A' H' σ' δ') (nb : (δ'.all fun s => !s.isBo) = true) : Iv Γ A' H' σ' δ' := by
  refine ⟨I1.len, fun j s e => ?_, I1.sep, I.d0, I.st.trans I1.st, I.er⟩
  obtain ⟨o, e1, r⟩ := I1.at_ j s e
  refine ⟨o, e1, ?_⟩
  have n := List.all_eq_true.mp nb s (List.mem_of_getElem? e)
  cases s with
  | un => trivial
  | @fx α _ a => exact r
  | @bo α _ xs => cases n
  | @mu α _ xs =>
    obtain ⟨p, ho, e2, m, b, n0, hh, k⟩ := r
    exact ⟨p, ho, e2, m, b, I.st.none n0, hh, k⟩
  | @mp α _ q xs =>
    obtain ⟨p, ho, e2, m, b, n0, hh, k⟩ := r
    exact ⟨p, ho, e2, m, b, I.st.none n0, hh, k⟩
  | ob C q fs =>
    obtain ⟨p, ho, e2, m, b, n0, hh, k⟩ := r
    exact ⟨p, ho, e2, m, b, I.st.none n0, hh, k⟩
theorem Iv.clear (I : Iv Γ A H σ δ) (h : δ[i]? = some .un) : Iv Γ A H (σ.set i none) δ := by
  have hi : i < δ.length := (List.getElem?_eq_some_iff.mp h).1
  refine ⟨by rw [List.length_set]; exact I.len, fun j s e => ?_, fun j k s t p hjk ej ek os ot pj pk => ?_, I.d0, I.st, I.er⟩
  · by_cases hj : i = j
    · subst hj
      rw [h] at e
      cases e
      exact ⟨none, by rw [List.getElem?_set_self (by rw [I.len]; exact hi)], trivial⟩
    · rw [List.getElem?_set_ne hj]
      exact I.at_ j s e
  · have ne : ∀ (j : Nat) (s : Sl), δ[j]? = some s → s.own = true → i ≠ j := fun j s e o z => by
      subst z
      rw [h] at e
      cases e
      cases o
    rw [List.getElem?_set_ne (ne j s ej os)] at pj
    rw [List.getElem?_set_ne (ne k t ek ot)] at pk
    exact I.sep j k s t p hjk ej ek os ot pj pk
theorem Iv.unq (I : Iv Γ A H σ δ) (I1 : Iv Γ.q A' H' σ' δ') : Iv Γ A' H' σ' δ' := ⟨I1.len, I1.at_, I1.sep, I1.d0, I1.st, I.er⟩
/-- what the body of a try does, anchored where it begins -/
theorem Wish.fresh (I : Iv Γ A H σ δ) (nb : ∀ s, ((Δ s).all fun s => !s.isBo) = true) {r : Res S β Empty} (w : Wish Γ A H D Δ ΔL (toR r)) : Wish ⟨Γ.G, A, H, E', Er'⟩ A H D Δ (fun e : Empty => e.elim) r := by
  cases r with
  | nx s => exact fun σ1 A1 H1 mv I1 => w σ1 A1 H1 mv (I.back I1 (nb s))
  | rt b => exact fun v A1 H1 st r => w v A1 H1 (I.st.trans st) r
  | bk l => exact l.elim
  | ct l => exact l.elim
/-- the clause's wish at its slots -/
def As (i : Nat) (D : Ends) : Ends := { nx := fun σ' H' => D.nx (σ'.set i none) H', rt := D.rt, bk := fun σ' H' => D.bk (σ'.set i none) H', ct := fun σ' H' => D.ct (σ'.set i none) H' }
theorem Wish.as (I : Iv Γ A H σ δ) (ui : ∀ s, (Δ s)[i]? = some .un) (ul : ∀ l, (ΔL l)[i]? = some .un) {r : Res S β L} (m : Mv A H A' H') (w : Wish Γ A H D Δ ΔL r) : Wish Γ.q A' H' (As i D) Δ ΔL r := by
  cases r with
  | nx s => exact fun σ1 A1 H1 mv I1 => w _ A1 H1 (m.trans mv) ((I.unq I1).clear (ui s))
  | rt b => exact w
  | bk l => exact fun σ1 A1 H1 mv I1 => w _ A1 H1 (m.trans mv) ((I.unq I1).clear (ul l))
  | ct l => exact fun σ1 A1 H1 mv I1 => w _ A1 H1 (m.trans mv) ((I.unq I1).clear (ul l))
theorem Wish.unq (I : Iv Γ A H σ δ) {r : Res S β L} (m : Mv A H A' H') (w : Wish Γ A H D Δ ΔL r) : Wish Γ.q A' H' D Δ ΔL r := by
  cases r with
  | nx s => exact fun σ1 A1 H1 mv I1 => w _ A1 H1 (m.trans mv) (I.unq I1)
  | rt b => exact w
  | bk l => exact fun σ1 A1 H1 mv I1 => w _ A1 H1 (m.trans mv) (I.unq I1)
  | ct l => exact fun σ1 A1 H1 mv I1 => w _ A1 H1 (m.trans mv) (I.unq I1)
/-- try: .. except c as n: .. -/
theorem st_try_as {c : Value} {tb : WX → TS} {ts : Addr → Value → Option Addr → TS} {mb : W (Res S β Empty)} {k : Exn → W (Res S β L)} (tst : Nat → Option Bool)
    (no : (δ.all fun s => !s.own) = true) (nb : ∀ s, ((Δ s).all fun s => !s.isBo) = true) (hc : ∀ n b, tst n = some b → PySem.W.exmOne Γ.G.K (.ref (Γ.G.cls n)) c = some b) (ui : ∀ s, (Δ s)[i]? = some .un) (ul : ∀ l, (ΔL l)[i]? = some .un) (hi : i < δ.length)
    (hb : ∀ (W : WX) (A1 : Av) (H1 : Hp) (Er1 : Exn → Prop) (σ0 : L2.St), StA ⟨Γ.G, A1, H1, fun cls d H => W cls d σ0 H, Er1⟩ σ0 (tb W) δ mb Δ (fun e : Empty => e.elim))
    (hh : ∀ (a : Addr) (cls : Value) (d : Option Addr) (e : Exn), StT Γ.q (ts a cls d) (δ.set i (.fx (ExT cls d a) ⟨e⟩)) (k e) Δ ΔL) :
    StT Γ (tTry tb (wAs Γ.G.K c i ts (fun cls d _ H => Γ.E cls d H))) δ (tryW mb [(tst, k)]) Δ ΔL := fun σ A H D I q => by
  refine hb _ A H (fun e => hdW (Wish Γ A H D Δ ΔL) Γ.Er [(tst, k)] e) σ A H D (I.fresh no fun e cls d A' H' he st x => ?_) (mb.mono (fun r w => w.fresh I nb) (fun _ h => h) q)
  have ec := x.1
  unfold hdW at he
  cases ht : tst e.cls with
  | none => rw [ht] at he; exact he.elim
  | some b =>
    rw [ht] at he
    refine ⟨b, by rw [ec]; exact hc _ _ ht, fun eb a na => ?_, fun eb => ?_⟩
    · subst eb
      exact hh a cls d e _ A' H' (As i D) (((I.step st).fx (α := ExT cls d a) (a := (⟨e⟩ : ExT cls d a)) (show V.ref a = V.ref a ∧ ExR Γ.G A' H' e cls d from ⟨rfl, x⟩) hi).q) ((k e).mono (fun r w => w.as I ui ul (I.stepMv st)) (fun _ z => z) he)
    · subst eb
      exact I.er e cls d A' H' he (I.st.trans st) x
/-- try: .. except c: .. -/
theorem st_try_only {c : Value} {tb : WX → TS} {ts : Addr → Value → Option Addr → TS} {mb : W (Res S β Empty)} {k : Exn → W (Res S β L)} (tst : Nat → Option Bool)
    (no : (δ.all fun s => !s.own) = true) (nb : ∀ s, ((Δ s).all fun s => !s.isBo) = true) (hc : ∀ n b, tst n = some b → PySem.W.exmOne Γ.G.K (.ref (Γ.G.cls n)) c = some b)
    (hb : ∀ (W : WX) (A1 : Av) (H1 : Hp) (Er1 : Exn → Prop) (σ0 : L2.St), StA ⟨Γ.G, A1, H1, fun cls d H => W cls d σ0 H, Er1⟩ σ0 (tb W) δ mb Δ (fun e : Empty => e.elim))
    (hh : ∀ (a : Addr) (cls : Value) (d : Option Addr) (e : Exn), StT Γ.q (ts a cls d) δ (k e) Δ ΔL) :
    StT Γ (tTry tb (wOnly Γ.G.K c ts (fun cls d _ H => Γ.E cls d H))) δ (tryW mb [(tst, k)]) Δ ΔL := fun σ A H D I q => by
  refine hb _ A H (fun e => hdW (Wish Γ A H D Δ ΔL) Γ.Er [(tst, k)] e) σ A H D (I.fresh no fun e cls d A' H' he st x => ?_) (mb.mono (fun r w => w.fresh I nb) (fun _ h => h) q)
  have ec := x.1
  unfold hdW at he
  cases ht : tst e.cls with
  | none => rw [ht] at he; exact he.elim
  | some b =>
    rw [ht] at he
    refine ⟨b, by rw [ec]; exact hc _ _ ht, fun eb a na => ?_, fun eb => ?_⟩
    · subst eb
      exact hh a cls d e _ A' H' D (I.step st).q ((k e).mono (fun r w => w.unq I (I.stepMv st)) (fun _ z => z) he)
    · subst eb
      exact I.er e cls d A' H' he (I.st.trans st) x
end
end TW
set_option Elab.async false
set_option maxRecDepth 100000
set_option maxHeartbeats 4000000
set_option linter.all false
set_option autoImplicit false
/-! TW20: static methods; calls in a try's body -/
namespace TW
open Pa (rep)
open PaL (repL)
open PySem PySem.Spec PyProof.Rows L2 My
/-- a static method of a class -/
structure SMet (K : PySem.W.Frag) (C : Addr) (m : Str) (p g : Addr) : Prop where
  at_ : PySem.W.findCls K (.ref C) (.type "type") m = some (.get (.builtin "staticmethod.__get__") (.ref p) .none (.ref C))
  rc : ∃ rest, PySem.W.recIn K p "staticmethod" = some (.ref g :: rest)
  kp : PySem.W.keepIn K (.ref g) = true
def tSMeth (C : Addr) (sp : Sp) (ES : L2.St → XK) (ta : TE) (t : TA) : TE := fun σ H Q => ta σ H fun x H1 => x = .ref C ∧ t σ H1 fun vs H2 => sp vs H2 Q (ES σ)
section
variable {X : Cx} {CX : CXT} {k : Nat} {C p g : Addr} {fd : FuncData} {ps : List Str} {sp : Sp} {E : XK} {ES : L2.St → XK} {o i e : Expr} {es : List Expr} {m : Str} {pos apos : Pos} {to ti ta tb : TE} {t : TA} {pl : Sem Bool}
theorem pe_smeth (he : PE X o ta) (r : ClX.CRead X.K C (.type "type")) (c : SMet X.K C m p g) (F : FnR X.prog X.w X.K X.mg X.base CX k g sp) (hr : Room k X.A) (hx : ∀ σ, PassesAt CX X σ (ES σ)) (ha : PA X (e :: es) t)
    (hst : starEach (e :: es) X.env = (false, eval e X.env) :: starEach es X.env := by rfl) (hpl : (backTo pos (starEach es X.env)).any (·.1) = false := by rfl)
    (ht : eval (.Call (.Attribute o m apos) (e :: es) [] pos) X.env = (do
      let ov ← eval o X.env
      standAt apos.atName
      let (f, first) ← holding [ov] (getMethod ov m pl)
      callWith pos f first (backTo pos (starEach (e :: es) X.env)) (backToKw pos (keywordEach [] X.env))) := by rfl) :
    PE X (.Call (.Attribute o m apos) (e :: es) [] pos) (tSMeth C sp ES ta t) := by
  refine ⟨fun pins s σ H Q I h => ?_⟩
  refine PySem.W.methodCall_KW (pl := pl) (thn (he.run pins s σ H _ I h) fun u s1 ⟨x, H1, I1, rx, ex, q⟩ => ?_) ht
  subst ex
  obtain rfl : u = Value.ref C := rx
  obtain ⟨rest, hp⟩ := c.rc
  refine PySem.W.method_cls I1.kIn r.ga (PySem.W.cls_bind I1.kIn r.rd c.at_ (wpAny_call (PySem.W.sm_get (s := { s1 with toks := s1.toks + 1 }) I1.kIn hp (PySem.W.handed_on rfl ?_))))
  refine PySem.W.callWith_K (h₀ := X.base) I1.ok.mod.kin c.kp (thn (ha.run pos pins _ σ H1 _ (I1.tok _) q) fun us s2 ⟨vs, H2, I2, rv, q2⟩ => ⟨I2.kIn, ?_⟩) hst hpl
  exact wpAny_call (run_fnRS F hr (hx σ) I2 rv q2)
/-- a def run near, where what it raises is wished for at the slots -/
theorem run_ownS {pins : List (Addr × PySem.Obj)} {σ : L2.St} {H : Hp} {s : Shared} {A1 : Around} {vs : List V} {us : List Value} {Q : VK} (hf : A1.frames = X.A.frames) (hr : Room k A1) (F : FnOk X.prog X.w X.K X.mg X.base CX k g fd ps sp) (b : Binds X.K fd ps []) (hx : PassesAt CX X σ E) (I : Inv X pins σ H s)
    (rv : Vals vs us) (q : sp vs H Q E) : codeAny (model X.prog X.w) A1 (.call (.ref g) ⟨us, []⟩) (fun r s' => match r with | .ok (.ret v) => EP X pins σ Q v s' | .ok _ => False | .error e => X.xe e s') s := by
  have e0 : Env0 X.prog X.w X.K X.mg X.base A1 X.stack s H := by
    have e := I.env0
    exact ⟨by rw [hf]; exact e.frames, e.mod, e.bs, e.bsz, e.funs, e.frf, e.hok, e.bare⟩
  have hl := F.len _ _ _ _ q
  have hb := b s us I.kIn (by rw [List.append_nil, ← rv.length, hl])
  rw [List.append_nil] at hb
  refine codeAny_mono (F.run A1 X.stack s H ⟨us, []⟩ us vs Q E hr e0 hb rv q) fun r s' hq => ?_
  rcases r with e | fl
  · exact hx pins H s e s' I hq
  · cases fl with
    | ret u => exact I.after hq
    | _ => exact False.elim hq
def tSubS (C : Addr) (sp : Sp) (ES : L2.St → XK) (to ti : TE) : TE := fun σ H Q => tSubO C sp (ES σ) to ti σ H Q
theorem pe_subS (hs : PySem.W.findIn X.K (.ref C) "__getitem__" = some (some (.ref g))) (hf : PySem.W.isFn X.K (.ref g) = true) (hf2 : PySem.W.fnIn X.K g = true) (F : FnOk X.prog X.w X.K X.mg X.base CX k g fd ps sp) (b : Binds X.K fd ps [])
    (hr : Room (k + 1) X.A) (hx : ∀ σ, PassesAt CX X σ (ES σ)) (ho : PE X o to) (hi : PE X i ti) (hsl : ∀ x v, subscripted i true (.ref x) v = runValue (.builtin "lifetime.subscript" ⟨[.ref x, v], []⟩) := by intros; with_unfolding_all rfl) : PE X (.Subscript o i pos) (tSubS C sp ES to ti) := by
  refine ⟨fun pins s σ H Q I h => ?_⟩
  refine Subscript_ (thn (ho.run pins s σ H _ I h) fun u s1 ⟨x, H1, I1, rx, q1⟩ => thn (hi.run pins s1 σ H1 _ I1 q1) fun iv s2 ⟨y, H2, I2, ry, a, dx, fs, ex, ha, q2⟩ => ?_)
  subst ex
  obtain rfl : u = Value.ref a := rx
  obtain ⟨mA, J, _⟩ := ins_get I2.hok ha
  obtain ⟨od, J, _⟩ := J.look
  obtain ⟨m0, hF⟩ := I2.fr
  exact PySem.W.sub_K hF I2.ok.mod.kin J hs hf2 hf (wpAny_call (run_ownS (A1 := X.A.in1) (vs := [.ref a, y]) rfl hr.in1 F b (hx σ) I2 (.cons rfl (.cons ry .nil)) q2)) (hsl a iv)
def tCallOS (C : Addr) (sp : Sp) (ES : L2.St → XK) (to : TE) (ta : TA) : TE := fun σ H Q => tCallO C sp (ES σ) to ta σ H Q
theorem pe_callOS (hs : PySem.W.findIn X.K (.ref C) "__call__" = some (some (.ref g))) (hf : PySem.W.isFn X.K (.ref g) = true) (hf2 : PySem.W.fnIn X.K g = true) (F : FnOk X.prog X.w X.K X.mg X.base CX k g fd ps sp) (b : Binds X.K fd ps [])
    (hr : Room k X.A) (hx : ∀ σ, PassesAt CX X σ (ES σ)) (ho : PE X o to) (ha : PA X (e :: es) t)
    (he : starEach (e :: es) X.env = (false, eval e X.env) :: starEach es X.env := by rfl) (hpl : (backTo pos (starEach es X.env)).any (·.1) = false := by rfl)
    (ht : eval (.Call o (e :: es) [] pos) X.env = (do callWith pos (← eval o X.env) [] (backTo pos (starEach (e :: es) X.env)) (backToKw pos (keywordEach [] X.env))) := by rfl) :
    PE X (.Call o (e :: es) [] pos) (tCallOS C sp ES to t) := by
  refine ⟨fun pins s σ H Q I h => ?_⟩
  rw [ht]
  refine wpAny_bind (thn (ho.run pins s σ H _ I h) fun u s1 ⟨x, H1, I1, rx, a, ex, q1⟩ => ?_)
  subst ex
  obtain rfl : u = Value.ref a := rx
  have run := ha.run pos pins s1 σ H1 _ I1 q1
  rw [he] at run ⊢
  refine callWith_obj (by show ((false || (backTo pos (starEach es X.env)).any (·.1)) || false) = false; rw [hpl]; rfl) (Calls.evalArgs_plain (thn run fun us s2 ⟨vs, H2, I2, rv, dx, fs, ha, q2⟩ => ?_))
  obtain ⟨mA, J, _⟩ := ins_get I2.hok ha
  obtain ⟨od, J, _⟩ := J.look
  exact ⟨⟨_, J.at_, rfl⟩, wpAny_call (PySem.W.kco_code I2.kIn J rfl hs hf hf2 (run_ownS (vs := .ref a :: vs) rfl hr F b (hx σ) I2 (.cons rfl rv) q2))⟩
/-- a op b by an own def, in a try's body -/
def tOwnBS (C : Addr) (sp : Sp) (ES : L2.St → XK) (ta tb : TE) : TE := fun σ H Q => tOp (rOwnB C sp (ES σ)) ta tb σ H Q
theorem pe_opS {op : Operator} (hc : PySem.W.selfFirst X.K C = true) (hs : PySem.W.findIn X.K (.ref C) (PySem.dunder op.info.2) = some (some (.ref g))) (hf : PySem.W.isFn X.K (.ref g) = true) (F : FnR X.prog X.w X.K X.mg X.base CX k g sp)
    (hr : Room k X.A) (hx : ∀ σ, PassesAt CX X σ (ES σ)) (ha : PE X o ta) (hb : PE X i tb) : PE X (.BinOp o op i pos) (tOwnBS C sp ES ta tb) := by
  refine ⟨fun pins s σ H Q I h => ?_⟩
  refine wpAny_BinOp (binT ha hb I h fun v u s2 x y H2 I2 rx ry q => ?_)
  obtain ⟨a, dx, fs, b, dy, gs, rfl, rfl, ha, hb, q⟩ := q
  cases (show v = Value.ref a from rx)
  cases (show u = Value.ref b from ry)
  obtain ⟨mA, J, _⟩ := ins_get I2.hok ha
  obtain ⟨od, J, _⟩ := J.look
  obtain ⟨mB, J', _⟩ := ins_get I2.hok hb
  obtain ⟨od', J', _⟩ := J'.look
  obtain ⟨m, hF⟩ := I2.fr
  refine PySem.W.binop_K (op := op) hF I2.ok.mod.kin J J'.type hc hs hf ?_
  refine wpAny_mono (wpAny_call (run_fnRS (us := [.ref a, .ref b]) (vs := [.ref a, .ref b]) F hr (hx σ) I2 (.cons rfl (.cons rfl .nil)) q)) (fun w s' z => ?_) fun _ _ x => x
  obtain ⟨z', H', I', rz, qz⟩ := z
  exact SlX.cmpback rz ⟨z', H', I', rz, qz⟩
end
section
variable {Γ : Cxt} {te to ti ta : TE} {tl : TA} {δ : List Sl} {α β γ τ : Type}
theorem ev_smeth [PaL τ] [Pa β] {n : Nat} {f : τ → W β} {m : W τ} (h : EvA Γ tl δ m) : EvT Γ (tSMeth (Γ.G.cls n) (SpF Γ.G f) (fun _ => Γ.E) (tC (.ref (Γ.G.cls n))) tl) δ (m >>= f) := fun σ A H Q I q => by
  refine ⟨rfl, h σ A H _ I (m.mono (fun t q vs A1 H1 s1 rt => ?_) (fun _ h => h) q)⟩
  exact ⟨A1, t, s1.d, rt, (f t).mono (fun b q w A2 H2 s2 r => q w A2 H2 (s1.trans s2) r) (fun e he => I.erq s1 e he) q⟩
end
/-- an own error without fields -/
structure ErrP (K : PySem.W.Frag) (mg : Str → Option Value) (x : Str) (C fI : Addr) (fd : FuncData) : Prop where
  g : mg x = some (.ref C)
  oex : OexC K C
  iC : PySem.W.findIn K (.ref C) "__init__" = some (some (.ref fI))
  tI : PySem.W.typeIn K (.ref fI) = some (.type "function")
  b : Binds K fd ["self"] []
end TW
set_option Elab.async false
set_option maxRecDepth 100000
set_option maxHeartbeats 4000000
set_option linter.all false
set_option autoImplicit false
/-! TW21: values of one of several types; .insert, [::-1], .index of a tuple -/
namespace TW
open Pa (rep)
open PaL (repL)
open PySem PySem.Spec PyProof.Rows L2 My
/-! ### one of three types -/
inductive Sm3 (α β γ : Type) where
  | a (x : α) | b (x : β) | c (x : γ)
instance {α β γ : Type} [Py α] [Py β] [Py γ] : Py (Sm3 α β γ) where
  rep := fun G A H v s => match s with | .a x => rep G A H v x | .b x => rep G A H v x | .c x => rep G A H v x
  st := fun {G A H A' H' v s} h d t => match s, h with | .a _, h => Pa.st h d t | .b _, h => Pa.st h d t | .c _, h => Pa.st h d t
  mv := fun {G A H A' H' v s} h t => match s, h with | .a _, h => Py.mv h t | .b _, h => Py.mv h t | .c _, h => Py.mv h t
section
variable {Γ : Cxt} {te ta tb : TE} {tl : TA} {δ : List Sl} {α β γ τ : Type}
theorem ev_sa [Py α] [Py β] [Py γ] {m : W α} (h : EvT Γ te δ m) : EvT (α := Sm3 α β γ) Γ te δ (m >>= fun a => pure (Sm3.a a)) := ev_as (Sm3.a (α := α) (β := β) (γ := γ)) (fun _ _ _ _ _ r => r) h
theorem ev_sb [Py α] [Py β] [Py γ] {m : W β} (h : EvT Γ te δ m) : EvT (α := Sm3 α β γ) Γ te δ (m >>= fun a => pure (Sm3.b a)) := ev_as (Sm3.b (α := α) (β := β) (γ := γ)) (fun _ _ _ _ _ r => r) h
theorem ev_sc [Py α] [Py β] [Py γ] {m : W γ} (h : EvT Γ te δ m) : EvT (α := Sm3 α β γ) Γ te δ (m >>= fun a => pure (Sm3.c a)) := ev_as (Sm3.c (α := α) (β := β) (γ := γ)) (fun _ _ _ _ _ r => r) h
end
theorem rep_bor {α : Type} [Py α] {G : Gx} {A : Av} {H : Hp} {v : V} {xs : List α} (d : Dom A H) (h : rep G A H v xs) : rep G A H v (Bor.mk xs) := by
  obtain ⟨p, vs, e, ⟨n, k⟩, z⟩ := h
  exact ⟨p, vs, e, ⟨fun b => n (d.s p b), k⟩, z⟩
/-- what a type's values are as another's -/
def AsV (α β : Type) [Pa α] [Pa β] (g : α → β) : Prop := ∀ {G A H v} {x : α}, Dom A H → rep G A H v x → rep G A H v (g x)
theorem as_id {α : Type} [Pa α] : AsV α α id := fun _ h => h
theorem as_bor {α : Type} [Py α] : AsV (List α) (Bor α) Bor.mk := fun d h => rep_bor d h
section
variable {P : Program} {w : World} {K : PySem.W.Frag} {mg : Str → Option Value} {base : Heap} {CX : CXT} {k : Nat} {f : Addr} {fd : FuncData} {ps : List Str}
theorem fn_or {sp1 sp2 : Sp} (h1 : FnOk P w K mg base CX k f fd ps sp1) (h2 : FnOk P w K mg base CX k f fd ps sp2) : FnOk P w K mg base CX k f fd ps (fun vs H Q E => sp1 vs H Q E ∨ sp2 vs H Q E) :=
  ⟨fun vs H Q E h => h.elim (h1.len vs H Q E) (h2.len vs H Q E), fun A outer s H args us vs Q E hr e0 hb hv hs => hs.elim (h1.run A outer s H args us vs Q E hr e0 hb hv) (h2.run A outer s H args us vs Q E hr e0 hb hv)⟩
/-- a method whose second argument is of one of three types -/
theorem sum3_ok {G : Gx} {α β1 β2 β3 γ1 γ2 γ3 ρ : Type} [Pa α] [Py β1] [Py β2] [Py β3] [Pa γ1] [Pa γ2] [Pa γ3] [Pa ρ] {f1 : Cn α (Cn γ1 Nl) → W ρ} {f2 : Cn α (Cn γ2 Nl) → W ρ} {f3 : Cn α (Cn γ3 Nl) → W ρ} {g1 : β1 → γ1} {g2 : β2 → γ2} {g3 : β3 → γ3}
    (a1 : AsV β1 γ1 g1) (a2 : AsV β2 γ2 g2) (a3 : AsV β3 γ3 g3) (h1 : FnOk P w K mg base CX k f fd ps (SpF G f1)) (h2 : FnOk P w K mg base CX k f fd ps (SpF G f2)) (h3 : FnOk P w K mg base CX k f fd ps (SpF G f3)) :
    FnOk P w K mg base CX k f fd ps (SpF G (fun t : Cn α (Cn (Sm3 β1 β2 β3) Nl) => match t.r.a with | .a x => f1 ⟨t.a, ⟨g1 x, ⟨⟩⟩⟩ | .b x => f2 ⟨t.a, ⟨g2 x, ⟨⟩⟩⟩ | .c x => f3 ⟨t.a, ⟨g3 x, ⟨⟩⟩⟩)) := by
  refine FnOk.imp (fn_or h1 (fn_or h2 h3)) fun vs H Q E ⟨A, t, d, r, q⟩ => ?_
  obtain ⟨o, ⟨s, ⟨⟩⟩⟩ := t
  obtain ⟨v, r1, e1, ho, u, r2, e2, hs, e3⟩ := r
  cases s with
  | a x => exact .inl ⟨A, ⟨o, ⟨g1 x, ⟨⟩⟩⟩, d, ⟨v, r1, e1, ho, u, r2, e2, a1 d hs, e3⟩, q⟩
  | b x => exact .inr (.inl ⟨A, ⟨o, ⟨g2 x, ⟨⟩⟩⟩, d, ⟨v, r1, e1, ho, u, r2, e2, a2 d hs, e3⟩, q⟩)
  | c x => exact .inr (.inr ⟨A, ⟨o, ⟨g3 x, ⟨⟩⟩⟩, d, ⟨v, r1, e1, ho, u, r2, e2, a3 d hs, e3⟩, q⟩)
end
/-! ### lists -/
section
variable {Γ : Cxt} {te ti ta tb : TE} {tl : TA} {δ : List Sl} {S α β γ τ L : Type} {Δ : S → List Sl} {ΔL : L → List Sl}
theorem All2.rev {R : V → α → Prop} : ∀ {vs : List V} {xs : List α}, All2 R vs xs → All2 R vs.reverse xs.reverse
  | _, _, .nil => .nil
  | _, _, .cons r t => by rw [List.reverse_cons, List.reverse_cons]; exact t.rev.app (.cons r .nil)
theorem ef_rev [Py α] {m : W (Bor α)} (h : EvT Γ te δ m) : EvF Γ (tRevL Γ.G.K te) δ (m >>= fun a => pure a.l.reverse) := fun σ A H Q I q => by
  refine h σ A H _ I (m.mono (fun a q v A1 H1 s1 r1 => ?_) (fun _ h => h) q)
  obtain ⟨p1, vs1, rfl, h1, k1⟩ := bor_sq r1
  exact ⟨p1, vs1, rfl, h1, fun p n => fresh_lst s1 k1.rev n q⟩
def rInsert : V → List V → Hp → VK → Prop := fun x vs H Q => ∃ (l : Addr) (xs : List V) (i : Int) (y : V), x = .ref l ∧ vs = [.int i, y] ∧ H l = some (.lst xs) ∧ xs.length < sizeLine ∧ 0 ≤ i ∧ i < 2 ^ 63 ∧ Q .non (upd H l (.lst (xs.take i.toNat ++ [y] ++ xs.drop i.toNat)))
def insL {α : Type} (xs : List α) (i : Int) (y : α) : List α := xs.take i.toNat ++ [y] ++ xs.drop i.toNat
theorem st_ins [Py α] [Pa β] {i : Nat} {xs : List α} {mi : W Int} {m : W α} (hk : EvT Γ ti δ mi) (ht : EvT Γ te δ m) (h : δ[i]? = some (.mu α xs) := by rfl) :
    StT (β := β) (L := L) Γ (tDrop (tBM Γ.G.K "list" rInsert (tVar i) (tCons ti (tCons te tNil)))) δ (mi >>= fun k => m >>= fun a => W.need (xs.length < sizeLine ∧ 0 ≤ k ∧ k < 2 ^ 63) >>= fun _ => pure (.nx (insL xs k a))) (fun ys => δ.set i (.mu α ys)) ΔL := fun σ A H D I q => by
  obtain ⟨o, e, p, ho, rfl, hm, b, n, hh, vs, rfl, k⟩ := I.at_ _ _ h
  refine ⟨_, e, .inl ⟨rfl, vs, .inl (.inl hh)⟩, ?_⟩
  refine hk σ A H _ I (mi.mono (fun j q u A1 H1 s1 r1 => ?_) (fun _ h => h) q)
  refine ht σ A1 H1 _ (I.step s1) (m.mono (fun a q v A' H' s r => ?_) (fun _ h => h) q)
  have s2 := s1.trans s
  have hh' := s2.k p _ b hh
  refine ⟨p, vs, j, v, rfl, by rw [show u = V.int j from r1], hh', by rw [k.len]; exact q.1.1, q.1.2.1, q.1.2.2, ?_⟩
  have k' := k.imp fun _ _ r => Pa.st r I.dom s2
  obtain ⟨mv, I'⟩ := (I.step s2).chg (s' := .mu α (insL xs j a)) (u := .lst (vs.take j.toNat ++ [v] ++ vs.drop j.toNat)) h rfl (fun _ _ _ _ _ h => h) e ⟨_, rfl, ((k'.take _).app (.cons r .nil)).app (k'.drop _)⟩
  exact q.2 σ _ _ ((I.stepMv s2).trans mv) I'
end
theorem mt_ins {X : Cx} : MtR X "list.insert" rInsert := mt_insert
/-! ### (1, 2, ..).index(x), whole numbers -/
def tTupIx (t t2 : TA) : TE := fun σ H Q => t σ H fun vs H1 => vs.length ≤ sizeLine ∧ ∀ p, H1 p = none → t2 σ (upd H1 p (.tup vs)) fun ys H2 => H2 p = some (.tup vs) ∧ ∃ (ns : List Int) (z : Int), vs = ns.map V.int ∧ ys = [.int z] ∧ z ∈ ns ∧ Q (.int (ns.idxOf z : Nat)) H2
theorem pe_tupIx {X : Cx} {es : List Expr} {e : Expr} {t t2 : TA} {k : Nat} {tp apos cpos : Pos} (hu : X.A.units + 66 < cLine) (h : PA X es t) (ha : PA X [e] t2)
    (hbase : attributeBase (.Tuple es k tp) "index" X.env (eval (.Tuple es k tp) X.env) = eval (.Tuple es k tp) X.env := by rfl)
    (hfew : ((backTo cpos (starEach [e] X.env)).all (fun x => !x.1) && (backToKw cpos (keywordEach [] X.env)).all (fun x => x.1.isSome)
      && decide ([e].length + ([] : List Keyword).length + (if ([] : List Keyword).isEmpty then 0 else 1) < 30)) = true := by rfl)
    (hline : (apos.endLine == cpos.line) = true := by rfl) (hs : starEach [e] X.env = (false, eval e X.env) :: starEach [] X.env := by rfl) :
    PE X (.Call (.Attribute (.Tuple es k tp) "index" apos) [e] [] cpos) (tTupIx t t2) := by
  refine ⟨fun pins s σ H Q I hq => ?_⟩
  refine wpAny_Call_method_late hbase hfew hline rfl (wpAny_Tuple_spliced (thn (h.run tp pins s σ H _ I hq) fun us s1 ⟨xs, H1, I1, r, z, q⟩ => ⟨by rw [← r.length]; exact z, ?_⟩))
  have hf : H1 s1.heap.objs.size = none := I1.hok.fresh (Nat.le_refl _)
  have I2 : Inv X pins σ (upd H1 s1.heap.objs.size (.tup xs)) { s1 with heap := s1.heap.push { cls := .type "tuple", data := .seq us.toArray } } :=
    I1.laid (t' := s1.toks) (fun b u e => Heap.get?_push_of_some _ e) (Nat.le_refl _) ⟨z, us, r, ⟨_, Heap.get?_push_size _ rfl, rfl, _, rfl⟩⟩
  refine ⟨"tuple", "tuple.index", PySem.F.plainAttrs_tuple, PySem.F.slot_tuple_index, PySem.F.type_tuple_index, ⟨_, Heap.get?_push_size _ rfl, rfl⟩, fun a e => ?_, ?_⟩
  · cases e
    exact ⟨_, Heap.get?_push_size _ rfl, rfl⟩
  · have hA := ha.run cpos pins _ σ _ _ I2 (q _ hf)
    rw [hs] at hA ⊢
    refine Calls.callWith_builtin (by rfl) (Calls.evalArgs_plain (thn hA fun vs s2 ⟨ys, H2, I3, r3, hp, ns, zz, ex, ey, hz, q2⟩ => ?_))
    subst ey
    obtain ⟨u, rfl, t, rfl⟩ := vals1 r3
    obtain ⟨its, rv, pl, _⟩ := I3.tuple (SqT.of hp)
    rw [ex] at rv
    obtain ⟨o, ho, hc, n, hd⟩ := pl
    refine PySem.W.index_tuple_datum (α := Int) ⟨o, ho, hc, n, hd⟩ (PySem.W.HoldAll.of_ints (by simpa using rv.ints)) (PySem.W.holds_int zz t) (by show X.A.units + 1 + 0 < cLine; omega) hz ⟨.int (ns.idxOf zz : Nat), H2, I3.tok _, ⟨_, rfl⟩, q2⟩
section
variable {Γ : Cxt} {te to ta tb : TE} {tl : TA} {δ : List Sl} {α : Type}
theorem ev_tupIx {m : W (List Int)} {n : W Int} (h : EvAs Γ tl δ m) (k : EvT Γ te δ n) : EvT Γ (tTupIx tl (tCons te tNil)) δ (m >>= fun xs => W.need (xs.length ≤ sizeLine) >>= fun _ => n >>= fun x => W.need (x ∈ xs) >>= fun _ => (pure (xs.idxOf x : Int) : W Int)) := fun σ A H Q I q => by
  refine h σ A H _ I (m.mono (fun xs q vs A1 H1 s1 k1 => ?_) (fun _ h => h) q)
  obtain ⟨hz, q⟩ := q
  refine ⟨by rw [k1.len]; exact hz, fun p np => ?_⟩
  have s2 : St A1 H1 A1 (upd H1 p (.tup vs)) := St.new s1.d np
  have s12 := s1.trans s2
  refine k σ A1 _ _ (I.step s12) (n.mono (fun x q u A2 H2 s3 r => ?_) (fun _ h => h) q)
  exact ⟨s3.k p _ (fun b => s1.d.nm np (s1.d.s p b)) upd_same, xs, x, ints_of k1, by rw [show u = V.int x from r], q.1, q.2 _ A2 H2 (s12.trans s3) rfl⟩
end
end TW
set_option Elab.async false
set_option maxRecDepth 100000
set_option maxHeartbeats 4000000
set_option linter.all false
set_option autoImplicit false
/-! TW22: small things for the printed texts, second part -/
namespace TW
open Pa (rep)
open PaL (repL)
open PySem PySem.Spec PyProof.Rows L2 My
inductive AllP (P : Nat → Prop) : List Nat → Prop
  | nil : AllP P []
  | cons {n : Nat} {l : List Nat} : P n → AllP P l → AllP P (n :: l)
theorem all_in {P : Nat → Prop} {l : List Nat} (h : AllP P l) : ∀ n ∈ l, P n := by
  induction h with
  | nil => intro n hn; cases hn
  | cons p _ ih =>
    intro n hn
    rcases List.mem_cons.mp hn with e | e
    · rw [e]; exact p
    · exact ih n e
theorem tst_ok {K : PySem.W.Frag} {cls : Nat → Addr} {c : Value} {Y N : List Nat} (hY : AllP (fun n => PySem.W.exmOne K (.ref (cls n)) c = some true) Y) (hN : AllP (fun n => PySem.W.exmOne K (.ref (cls n)) c = some false) N) :
    ∀ n b, (if n ∈ Y then some true else if n ∈ N then some false else none) = some b → PySem.W.exmOne K (.ref (cls n)) c = some b := fun n b h => by
  split at h
  · rename_i hn
    cases h
    exact all_in hY n hn
  · split at h
    · rename_i hn
      cases h
      exact all_in hN n hn
    · cases h
theorem passes_at {CX : CXT} {X : Cx} {E : XK} (h : Passes CX X E) (σ : L2.St) : PassesAt CX X σ E := fun pins H s e s' I c => h pins σ H s e s' I c
theorem u66 {k : Nat} {A : Around} (r : Room k A) : A.units + 66 < cLine := by have := r.un; omega
theorem fn_up {P : Program} {w : World} {K : PySem.W.Frag} {mg : Str → Option Value} {base : Heap} {CX : CXT} {k j : Nat} {f : Addr} {fd : FuncData} {ps : List Str} {sp : Sp} (h : k ≤ j) (F : FnOk P w K mg base CX k f fd ps sp) : FnOk P w K mg base CX j f fd ps sp :=
  ⟨F.len, fun A outer s H args us vs Q E hr e0 hb hv hs => F.run A outer s H args us vs Q E (hr.mono h) e0 hb hv hs⟩
def kd_t3 {G : Gx} {α β γ : Type} [Py α] [Py β] [Py γ] : Kd G (T3 α β γ) := ⟨fun _ => .type "tuple", fun h => by obtain ⟨p, x, y, z, rfl, h, _⟩ := h; exact tyx_tup h⟩
section
variable {Γ : Cxt} {te ta tb : TE} {tl : TA} {δ δc : List Sl} {α β γ τ L : Type} {ΔL : L → List Sl}
theorem st_setD [Py α] [Pa β] {i : Nat} {m : W α} (h : EvT Γ te δ m) (l : ∀ a, Le (δ.set i (.fx α a)) δc) (hi : i < δ.length := by first | decide | simp) : StT (β := β) (L := L) Γ (tAsg te (gName i)) δ (m >>= fun _ => pure (.nx ())) (fun _ => δc) ΔL := fun σ A H D I q => by
  refine h σ A H _ I (m.mono (fun a q v A' H' s r => ?_) (fun _ h => h) q)
  exact q _ A' H' (I.stepMv s) (((I.step s).fx r hi).le (l a))
theorem st_dropD [Pa α] [Pa β] {m : W α} (h : EvT Γ te δ m) (l : Le δ δc) : StT (β := β) (L := L) Γ (tDrop te) δ (m >>= fun _ => pure (.nx ())) (fun _ => δc) ΔL := fun σ A H D I q => by
  refine h σ A H _ I (m.mono (fun a q v A' H' s r => ?_) (fun _ h => h) q)
  exact q σ A' H' (I.stepMv s) ((I.step s).le l)
theorem ev_propQ [PyO α] [Pa β] {f : Cn α Nl → W β} {m : W α} (h : EvT Γ te δ m) : EvT Γ (tProp (Γ.G.cls (Obj.nm α)) (SpF Γ.G f) [] E0 te) δ (m >>= fun o => (f ⟨o, ⟨⟩⟩).q) := fun σ A H Q I q => by
  refine h σ A H _ I (m.mono (fun o q v A1 H1 s1 r1 => ?_) (fun _ h => h) q)
  have r2 := r1
  obtain ⟨a, dx, fs, rfl, ⟨_, hh⟩, _⟩ := PyO.is.mp r1
  exact ⟨a, dx, fs, rfl, hh, A1, ⟨o, ⟨⟩⟩, s1.d, ⟨_, [], rfl, r2, rfl⟩, (f ⟨o, ⟨⟩⟩).mono (fun b q w A2 H2 s2 r => q w A2 H2 (s1.trans s2) r) (fun e he => he.elim) q⟩
end
/-- isinstance against an own class -/
theorem kit_ref {K : PySem.W.Frag} {t : Value} {C : Addr} {b : Bool} (hn : t ≠ .ref C) (h1 : PySem.W.isClsIn K C = true) (h2 : PySem.W.typeIn K (.ref C) = some (.type "type")) (h3 : PySem.W.subIn K t (.ref C) = some b) : PySem.W.kitOne K t (.ref C) = some b := by
  unfold PySem.W.kitOne
  rw [if_neg (by simpa using hn)]
  show (if ((PySem.W.clsIn K C).isSome && PySem.W.typeIn K (.ref C) == some (.type "type")) = true then PySem.W.subIn K t (.ref C) else none) = some b
  have h4 : (PySem.W.clsIn K C).isSome = true := h1
  rw [if_pos (by rw [h4, h2]; rfl)]
  exact h3
/-- .. whichever it is: with the same class it is one of it -/
theorem kit_refT {K : PySem.W.Frag} {t : Value} {C : Addr} (h1 : PySem.W.isClsIn K C = true) (h2 : PySem.W.typeIn K (.ref C) = some (.type "type")) (h3 : PySem.W.subIn K t (.ref C) = some true) : PySem.W.kitOne K t (.ref C) = some true := by
  by_cases h : t = .ref C
  · rw [h]; exact kit_same _ _
  · exact kit_ref h h1 h2 h3
theorem kit_refF {K : PySem.W.Frag} {A C : Addr} (hne : (A == C) = false) (h1 : PySem.W.isClsIn K C = true) (h2 : PySem.W.typeIn K (.ref C) = some (.type "type")) (h3 : PySem.W.subIn K (.ref A) (.ref C) = some false) : PySem.W.kitOne K (.ref A) (.ref C) = some false :=
  kit_ref (fun z => by cases z; simp at hne) h1 h2 h3
theorem kit_refFt {K : PySem.W.Frag} {T : String} {C : Addr} (h1 : PySem.W.isClsIn K C = true) (h2 : PySem.W.typeIn K (.ref C) = some (.type "type")) (h3 : PySem.W.subIn K (.type T) (.ref C) = some false) : PySem.W.kitOne K (.type T) (.ref C) = some false :=
  kit_ref (fun z => nomatch z) h1 h2 h3
/-- an own class in an except clause -/
theorem exm_own {K : PySem.W.Frag} {cls : Value} {C : Addr} {b : Bool} (h1 : PySem.W.subIn K (.ref C) (.type "BaseException") = some true) (h2 : PySem.W.isClsIn K C = true) (h3 : PySem.W.typeIn K (.ref C) = some (.type "type")) (h4 : PySem.W.subIn K cls (.ref C) = some b) : PySem.W.exmOne K cls (.ref C) = some b := by
  have e1 : (PySem.W.subIn K (.ref C) (.type "BaseException") == some true) = true := by rw [h1]; rfl
  have e2 : ((PySem.W.clsIn K C).isSome && PySem.W.typeIn K (.ref C) == some (.type "type")) = true := by
    have h5 : (PySem.W.clsIn K C).isSome = true := h2
    rw [h5, h3]; rfl
  show (if _ = true then (if _ = true then _ else none) else none) = some b
  rw [if_pos e1, if_pos e2]
  exact h4
end TW
set_option Elab.async false
set_option maxRecDepth 100000
set_option maxHeartbeats 4000000
set_option linter.all false
set_option autoImplicit false
/-! TW23: defs that give a new list -/
namespace TW
open Pa (rep)
open PaL (repL)
open PySem PySem.Spec PyProof.Rows L2 My
/-- what is given is a new list, the caller's own -/
def SpFr {τ β : Type} [PaL τ] [Py β] (G : Gx) (m : τ → W (List β)) : Sp := fun vs H Q E => ∃ A t, Dom A H ∧ repL G A H vs t ∧
  (m t).run (fun xs => ∀ p ws A' H', H p = none → A'.M p → ¬ A'.B p → St A H A' H' → H' p = some (.lst ws) → All2 (rep G A' H') ws xs → Q (.ref p) H') (fun e => ∀ cls d A' H', St A H A' H' → ExR G A' H' e cls d → E cls d H')
theorem def_okF {P : Program} {w : World} {K : PySem.W.Frag} {mg : Str → Option Value} {base : Heap} {cls : Nat → Addr} {x qual : Str} {st : Stmt} {f : Addr} {fd : FuncData} {N ps : List Str} {k : Nat} {τ β : Type} [PaL τ] [ArL τ] [Py β] (m : τ → W (List β)) (F : Fun K x qual st f fd) (S : FnScope N ps (defScope st))
    (hn : PaL.n τ = ps.length) (hn2 : PaL.n τ ≤ N.length)
    (body : ∀ (cdv : Value) (A : Around) (outer : List Env) (s : Shared) (H : Hp) (E : XK) (A0 : Av) (Er : Exn → Prop) (t : τ), Room k (A.deeper (envOfC qual (defScope st) s.heap.objs.size f cdv)) →
      ∃ te, PSs (cxOf (L2.CX P w) P w K mg base N qual (defScope st) f cdv A outer s H E) (defBody st) (tRet te) ∧ EvF ⟨⟨K, cls⟩, A0, H, E, Er⟩ te (ArL.sls t ++ List.replicate (N.length - PaL.n τ) .un) (m t)) :
    FnOk P w K mg base (L2.CX P w) (k + 1) f fd ps (SpFr ⟨K, cls⟩ m) := by
  refine F.okX S (fun vs H Q E h => ?_) (fun cdv A outer s H vs Q E hr h => ?_)
  · obtain ⟨A, t, d, r, q⟩ := h
    rw [PaL.lenL r, hn]
  · obtain ⟨A0, t, d, r, q⟩ := h
    obtain ⟨te, hp, hb⟩ := body cdv A outer s H E A0 (fun e => ∀ cl d A' H', TW.St A0 H A' H' → ExR ⟨K, cls⟩ A' H' e cl d → E cl d H') t hr
    exact ⟨_, hp, hb _ A0 H Q (iv_start d r hn2 fun e cl d A' H' h s x => h cl d A' H' s x) q⟩
section
variable {Γ : Cxt} {te ta tb : TE} {tl : TA} {δ : List Sl} {β τ : Type}
theorem ef_call [PaL τ] [Py β] {f : τ → W (List β)} {m : W τ} (h : EvA Γ tl δ m) : EvF Γ (tCall (SpFr Γ.G f) [] Γ.E tl) δ (m >>= f) := fun σ A H Q I q => by
  refine h σ A H _ I (m.mono (fun t q vs A1 H1 s1 r1 => ?_) (fun _ h => h) q)
  rw [List.append_nil]
  exact ⟨A1, t, s1.d, r1, (f t).mono (fun xs q p ws A2 H2 n hm hb s2 hp k => q p ws A2 H2 (s1.none n) hm hb (s1.trans s2) hp k) (fun e he => I.erq s1 e he) q⟩
end
end TW
set_option Elab.async false
set_option maxRecDepth 100000
set_option maxHeartbeats 4000000
set_option linter.all false
set_option autoImplicit false
/-! TW24: own errors of two fields -/
namespace TW
open Pa (rep)
open PaL (repL)
open PySem PySem.Spec PyProof.Rows L2 My
/-- __init__(self, f, g): self.f = f; self.g = g (what is stored last stands first) -/
def sp_efld2 (C : Addr) (f g : Str) : Sp := fun vs H Q _ => ∃ (a : Addr) (y z : V), vs = [.ref a, y, z] ∧ H a = some (exo a C none) ∧ ∀ dx, H dx = none → dx ≠ a → Q .non (upd (upd (upd H dx (exd dx [(f, y)])) a (exo a C (some dx))) dx (exd dx [(g, z), (f, y)]))
structure ErrF2 (K : PySem.W.Frag) (mg : Str → Option Value) (x f1 f2 : Str) (C fI : Addr) (fd : FuncData) : Prop where
  g : mg x = some (.ref C)
  oex : OexC K C
  iC : PySem.W.findIn K (.ref C) "__init__" = some (some (.ref fI))
  tI : PySem.W.typeIn K (.ref fI) = some (.type "function")
  b : L2.Binds K fd ["self", f1, f2] []
section
variable {X : Cx} {x f g : Str} {p pos : Pos} {e e2 : Expr} {te te2 : TE}
theorem pmk_fld2 {C fI : Addr} {k : Nat} {fd : FuncData} {ps : List Str} (T : OexC X.K C) (iC : PySem.W.findIn X.K (.ref C) "__init__" = some (some (.ref fI))) (tI : PySem.W.typeIn X.K (.ref fI) = some (.type "function"))
    (F1 : FnOk X.prog X.w X.K X.mg X.base CX0 k fI fd ps (sp_efld2 C f g)) (hr : Room (k + 1) X.A) (hb : L2.Binds X.K fd ps []) (hg : Gl X x) (hm : X.mg x = some (.ref C)) (he : PE X e te) (he2 : PE X e2 te2) (hdb : (x == ("__debug__" : Str)) = false := by decide)
    (hst : starEach [e, e2] X.env = (false, eval e X.env) :: starEach [e2] X.env := by rfl) (hst2 : starEach [e2] X.env = (false, eval e2 X.env) :: starEach [] X.env := by rfl) (hpl : (backTo pos (starEach [e2] X.env)).any (·.1) = false := by rfl) :
    PMk X (.Call (.Name x p) [e, e2] [] pos) (fun σ H Q => te σ H fun y H1 => te2 σ H1 fun z H2 => ∀ d H', H2 d = none → Same H2 H' → H' d = some (.xd [(g, z), (f, y)]) → Q (.ref C) (some d) H') := by
  intro pins s σ H Q I h
  refine pmk_oex (dvs := []) T iC tI F1 hr hb .nil (fun _ _ _ _ _ _ _ z => z.elim) hg hm (pa_cons (pe_wk he) (pa_cons (pe_wk he2) pa_nil hst2) hst) hdb hst hpl pins s σ H Q I ?_
  refine ⟨_, h, fun y H1 z => ⟨_, z, fun y2 H2 z2 => ⟨by show (2 : Nat) ≤ 1000; decide, fun a ha => ⟨a, y, y2, rfl, upd_same, fun dx hdx hda => ⟨rfl, dx, [(g, y2), (f, y)], ?_, upd_same, ?_, ?_⟩⟩⟩⟩⟩
  · rw [upd_ne (Ne.symm hda), upd_same]
  · rw [upd_ne hda] at hdx
    exact hdx
  · rw [upd_ne hda] at hdx
    refine z2 dx _ hdx (fun b o hb => ?_) upd_same
    have n1 : b ≠ dx := ne_of_none hb hdx
    have n2 : b ≠ a := ne_of_none hb ha
    rw [upd_ne n1, del_ne n2, upd_ne n1, upd_ne n2, upd_ne n1, upd_ne n2]
    exact hb
theorem ok_fld2 {P : Program} {w : World} {K : PySem.W.Frag} {mg : Str → Option Value} {base : Heap} {qual f1 f2 : Str} {st : Stmt} {fa C : Addr} {fd : FuncData} (F : Fun K "__init__" qual st fa fd) (S : FnScope ["self", f1, f2] ["self", f1, f2] (defScope st)) (T : OexC K C)
    (n1 : PySem.W.findIn K (.ref C) f1 = some none) (n2 : PySem.W.findIn K (.ref C) f2 = some none)
    (body : ∀ (cdv : Value) (A : Around) (outer : List Env) (s : Shared) (H : Hp) (E : XK), PSs (cxOf CX0 P w K mg base ["self", f1, f2] qual (defScope st) fa cdv A outer s H E).nox (defBody st) (tSeq (tOst K f1 (tVar 0) (tVar 1)) (tSeq (tOst K f2 (tVar 0) (tVar 2)) tNext))) :
    FnOk P w K mg base CX0 1 fa fd ["self", f1, f2] (sp_efld2 C f1 f2) := by
  refine F.ok S (fun vs H Q E h => ?_) (fun cdv A outer s H vs Q E hr h => ?_)
  · obtain ⟨a, y, z, rfl, _⟩ := h
    rfl
  · obtain ⟨a, y, z, rfl, ha, q⟩ := h
    refine ⟨_, body cdv A outer s H E, ?_⟩
    refine ⟨_, rfl, _, rfl, a, C, rfl, T, n1, .inl ⟨ha, fun dx hdx hda => ?_⟩⟩
    refine ⟨_, rfl, _, rfl, a, C, rfl, T, n2, .inr ⟨dx, [(f1, y)], upd_same, ?_, (show 1 ≤ 900 by decide), q dx hdx hda⟩⟩
    rw [upd_ne hda, upd_same]
end
section
variable {Γ : Cxt} {te ta : TE} {δ : List Sl} {S α β γ L : Type} {Δ : S → List Sl} {ΔL : L → List Sl}
theorem st_raise2 [Pa α] [ToD α] [Pa γ] [ToD γ] [Pa β] {m : W α} {n : W γ} (x : Nat) (f g : Str) (h : EvT Γ te δ m) (k : EvT Γ ta δ n) :
    StT (S := S) (β := β) Γ (fun _ σ H => te σ H fun y H1 => ta σ H1 fun z H2 => ∀ d H', H2 d = none → Same H2 H' → H' d = some (.xd [(g, z), (f, y)]) → Γ.E (.ref (Γ.G.cls x)) (some d) H') δ (m >>= fun a => n >>= fun b => W.thr ⟨x, [(g, ToD.d b), (f, ToD.d a)]⟩) Δ ΔL := fun σ A H D I q => by
  refine h σ A H _ I (m.mono (fun a q v A1 H1 s1 r1 => ?_) (fun _ h => h) q)
  refine k σ A1 H1 _ (I.step s1) (n.mono (fun b q u A2 H2 s2 r2 d H' nd sm e => ?_) (fun _ h => h) q)
  have s3 : TW.St A2 H2 A2 H' := same_st s2.d sm
  exact I.er _ _ _ A2 H' q ((I.st.trans s1).trans (s2.trans s3)) ⟨rfl, d, _, rfl, s2.d.nm nd, e, .cons ⟨rfl, Pa.st (ToD.ok r2) s2.d s3⟩ (.cons ⟨rfl, Pa.st (Pa.st (ToD.ok r1) s1.d s2) s2.d s3⟩ .nil)⟩
end
end TW
set_option Elab.async false
set_option maxRecDepth 100000
set_option maxHeartbeats 4000000
set_option linter.all false
set_option autoImplicit false
/-! TW25: calls in a try's body, by values -/
namespace TW
open Pa (rep)
open PaL (repL)
open PySem PySem.Spec PyProof.Rows L2 My
/-- an expression at these slots -/
def EvTA {α : Type} [Pa α] (Γ : Cxt) (σ : L2.St) (te : TE) (δ : List Sl) (m : W α) : Prop := ∀ A H Q, Iv Γ A H σ δ →
  m.run (fun a => ∀ v A' H', TW.St A H A' H' → rep Γ.G A' H' v a → Q v H') Γ.Er → te σ H Q
section
variable {Γ : Cxt} {σ : L2.St} {te to ti ta tb : TE} {tl : TA} {δ δc : List Sl} {S α β γ τ L : Type} {Δ : S → List Sl} {ΔL : L → List Sl} {ES : L2.St → XK}
theorem eva_call [PaL τ] [Pa β] {f : τ → W β} {m : W τ} (h : EvA Γ tl δ m) (hE : ES σ = Γ.E := by rfl) : EvTA Γ σ (tCallSD (SpF Γ.G f) [] ES tl) δ (m >>= f) := fun A H Q I q => by
  have z := ev_call h σ A H Q I q
  rw [← hE] at z
  exact z
theorem eva_make [PyO α] [PaL τ] {f : τ → W α} {m : W τ} (h : EvA Γ tl δ m) (hE : ES σ = Γ.E := by rfl) : EvTA Γ σ (tMakeS (Γ.G.cls (Obj.nm α)) (SpI Γ.G f) [] ES tl) δ (m >>= f) := fun A H Q I q => by
  have z := ev_make h σ A H Q I q
  rw [← hE] at z
  exact z
theorem eva_meth [PyO α] [PaL τ] [Pa β] {mn : Str} {mo : W α} {m : W τ} {f : Cn α τ → W β} (hm : ∀ o : α, look mn (Obj.fds o) = none) (ho : EvT Γ te δ mo) (h : EvA Γ tl δ m) (hE : ES σ = Γ.E := by rfl) :
    EvTA Γ σ (tMethS (Γ.G.cls (Obj.nm α)) mn (SpF Γ.G f) ES te tl) δ (mo >>= fun o => m >>= fun t => f ⟨o, t⟩) := fun A H Q I q => by
  refine ho σ A H _ I (mo.mono (fun o q v A1 H1 s1 r1 => ?_) (fun _ h => h) q)
  obtain ⟨a, dx, ws, rfl, ⟨_, hh⟩, k⟩ := PyO.is.mp r1
  have e0 := look_of (f := mn) k
  rw [hm o] at e0
  refine ⟨a, dx, ws, rfl, hh, e0, ?_⟩
  refine h σ A1 H1 _ (I.step s1) (m.mono (fun t q vs A2 H2 s2 r2 => ?_) (fun _ h => h) q)
  have s12 := s1.trans s2
  exact ⟨A2, ⟨o, t⟩, s2.d, ⟨_, vs, rfl, Pa.st r1 s1.d s2, r2⟩, (f ⟨o, t⟩).mono (fun b q v A3 H3 s3 r3 => q v A3 H3 (s12.trans s3) r3) (fun e he => by rw [hE]; exact I.erq s12 e he) q⟩
theorem eva_smeth [PaL τ] [Pa β] {n : Nat} {f : τ → W β} {m : W τ} (h : EvA Γ tl δ m) (hE : ES σ = Γ.E := by rfl) : EvTA Γ σ (tSMeth (Γ.G.cls n) (SpF Γ.G f) ES (tC (.ref (Γ.G.cls n))) tl) δ (m >>= f) := fun A H Q I q => by
  refine ⟨rfl, h σ A H _ I (m.mono (fun t q vs A1 H1 s1 rt => ?_) (fun _ h => h) q)⟩
  exact ⟨A1, t, s1.d, rt, (f t).mono (fun b q w A2 H2 s2 r => q w A2 H2 (s1.trans s2) r) (fun e he => by rw [hE]; exact I.erq s1 e he) q⟩
theorem eva_subO [PyO α] [Pa β] [Pa γ] {f : Cn α (Cn β Nl) → W γ} {m : W α} {n : W β} (h : EvT Γ to δ m) (k : EvT Γ ti δ n) (hE : ES σ = Γ.E := by rfl) : EvTA Γ σ (tSubS (Γ.G.cls (Obj.nm α)) (SpF Γ.G f) ES to ti) δ (m >>= fun o => n >>= fun i => f ⟨o, ⟨i, ⟨⟩⟩⟩) := fun A H Q I q => by
  have z := ev_subO h k σ A H Q I q
  rw [← hE] at z
  exact z
theorem eva_callO [PyO α] [PaL τ] [Pa β] {f : Cn α τ → W β} {m : W α} {n : W τ} (h : EvT Γ to δ m) (k : EvA Γ tl δ n) (hE : ES σ = Γ.E := by rfl) : EvTA Γ σ (tCallOS (Γ.G.cls (Obj.nm α)) (SpF Γ.G f) ES to tl) δ (m >>= fun o => n >>= fun t => f ⟨o, t⟩) := fun A H Q I q => by
  have z := ev_callO h k σ A H Q I q
  rw [← hE] at z
  exact z
theorem eva_ownB [PyO α] [Pa γ] {f : Cn α (Cn α Nl) → W γ} {m n : W α} (h : EvT Γ to δ m) (k : EvT Γ ti δ n) (hE : ES σ = Γ.E := by rfl) : EvTA Γ σ (tOwnBS (Γ.G.cls (Obj.nm α)) (SpF Γ.G f) ES to ti) δ (m >>= fun x => n >>= fun y => f ⟨x, ⟨y, ⟨⟩⟩⟩) := fun A H Q I q => by
  have z := ev_ownB h k σ A H Q I q
  rw [← hE] at z
  exact z
theorem sta_set [Py α] [Pa β] {i : Nat} {m : W α} (h : EvTA Γ σ te δ m) (l : ∀ a, Le (δ.set i (.fx α a)) δc) (hi : i < δ.length := by first | decide | simp) : StA (β := β) (L := L) Γ σ (tAsg te (gName i)) δ (m >>= fun _ => pure (.nx ())) (fun _ : Unit => δc) ΔL := fun A H D I q => by
  refine h A H _ I (m.mono (fun a q v A' H' s r => ?_) (fun _ h => h) q)
  exact q _ A' H' (I.stepMv s) (((I.step s).fx r hi).le (l a))
theorem sta_drop [Pa α] [Pa β] {m : W α} (h : EvTA Γ σ te δ m) (l : Le δ δc) : StA (β := β) (L := L) Γ σ (tDrop te) δ (m >>= fun _ => pure (.nx ())) (fun _ : Unit => δc) ΔL := fun A H D I q => by
  refine h A H _ I (m.mono (fun a q v A' H' s r => ?_) (fun _ h => h) q)
  exact q σ A' H' (I.stepMv s) ((I.step s).le l)
theorem sta_ret [Pa β] {m : W β} (h : EvTA Γ σ te δ m) : StA (S := S) (L := L) Γ σ (tRet te) δ (m >>= fun a => pure (.rt a)) Δ ΔL := fun A H D I q => by
  refine h A H _ I (m.mono (fun a q v A' H' s r => ?_) (fun _ h => h) q)
  exact q v A' H' (I.st.trans s) r
end
end TW
set_option Elab.async false
set_option maxRecDepth 100000
set_option maxHeartbeats 4000000
set_option linter.all false
set_option autoImplicit false
/-! TW26: programs of values that give something of a set; that raise -/
namespace TW
open Pa (rep)
open PaL (repL)
open PySem PySem.Spec PyProof.Rows L2 My
/-- a program that gives something of S -/
def Rn {α : Type} (m : W α) (S : α → Prop) : Prop := ∀ (P : α → Prop) (E : Exn → Prop), (∀ a, S a → P a) → m.run P E
/-- a program that raises e -/
def Th {α : Type} (m : W α) (e : Exn) : Prop := ∀ (P : α → Prop) (E : Exn → Prop), E e → m.run P E
section
variable {α β γ S L : Type}
theorem Gv.rn {m : W α} {a : α} {T : α → Prop} (h : Gv m a) (k : T a) : Rn m T := fun P E q => h P E (q a k)
theorem Rn.gv {m : W α} {a : α} (h : Rn m (· = a)) : Gv m a := fun P E q => h P E fun b e => e ▸ q
theorem Rn.ret {a : α} {T : α → Prop} (k : T a) : Rn (pure a) T := fun _ _ q => q a k
theorem Rn.bind {m : W α} {f : α → W β} {T : α → Prop} {U : β → Prop} (h : Rn m T) (k : ∀ a, T a → Rn (f a) U) : Rn (m >>= f) U := fun P E q => h _ _ fun a t => k a t P E q
theorem Gv.bindR {m : W α} {f : α → W β} {a : α} {U : β → Prop} (h : Gv m a) (k : Rn (f a) U) : Rn (m >>= f) U := fun P E q => h _ _ (k P E q)
theorem Rn.need {p : Prop} {f : Unit → W β} {U : β → Prop} (h : p) (k : Rn (f ()) U) : Rn (W.need p >>= f) U := (Gv.need h).bindR k
theorem Rn.mono {m : W α} {T U : α → Prop} (h : Rn m T) (k : ∀ a, T a → U a) : Rn m U := fun P E q => h P E fun a t => q a (k a t)
theorem Rn.quiet {m : W α} {T : α → Prop} (h : Rn m T) : Rn m.q T := fun P E q => h P _ q
theorem Rn.ite {c : Prop} [Decidable c] {m n : W α} {T : α → Prop} (h : c → Rn m T) (k : ¬ c → Rn n T) : Rn (if c then m else n) T := by
  by_cases z : c
  · rw [if_pos z]; exact h z
  · rw [if_neg z]; exact k z
theorem Rn.seq {γ : Type} {m : W (Res S β L)} {f : S → W (Res γ β L)} {T : S → Prop} {U : Res γ β L → Prop} (h : Rn m fun r => ∃ s, r = .nx s ∧ T s) (k : ∀ s, T s → Rn (f s) U) : Rn (seqW m f) U := h.bind fun r ⟨s, e, t⟩ => by
  subst e
  exact k s t
theorem Rn.fR {m : W (Res S β L)} {T : β → Prop} (h : Rn m fun r => ∃ b, r = .rt b ∧ T b) : Rn (finR m) T := h.bind fun r ⟨b, e, t⟩ => by
  subst e
  exact Rn.ret t
theorem Rn.all {e : α → W β} {T : β → Prop} : ∀ {xs : List α}, (∀ x ∈ xs, Rn (e x) T) → Rn (compW (fun _ => (pure true : W Bool)) e xs) fun l => l.length = xs.length ∧ ∀ y ∈ l, T y
  | [], _ => Rn.ret ⟨rfl, nofun⟩
  | x :: xs, h => by
    show Rn ((e x).q >>= fun y => compW (fun _ => (pure true : W Bool)) e xs >>= fun r => pure (y :: r)) _
    exact (h x List.mem_cons_self).quiet.bind fun y hy => (Rn.all fun z hz => h z (List.mem_cons_of_mem _ hz)).bind fun r ⟨hl, hr⟩ => Rn.ret ⟨by simp [hl], fun z hz => (List.mem_cons.mp hz).elim (fun e => e ▸ hy) (hr z)⟩
theorem Rn.forL {f : α → S → W (Res S β S)} (I : Nat → S → Prop) {xs : List α} {s : S} (h0 : I 0 s) (hs : ∀ (j : Nat) (x : α) (s : S), xs[j]? = some x → I j s → Rn (f x s) fun r => ∃ s', r = .nx s' ∧ I (j + 1) s') : Rn (forW (L := L) f xs s) fun r => ∃ s', r = .nx s' ∧ I xs.length s' := fun P E q =>
  run_for I xs 0 s h0 (fun j x s hx hi => hs j x s hx (by rwa [Nat.zero_add] at hi) _ _ fun r ⟨s', e, i'⟩ => by
    subst e
    rwa [Nat.zero_add]) fun s' hi => q _ ⟨s', rfl, by rwa [Nat.zero_add] at hi⟩
theorem Th.thr {e : Exn} : Th (W.thr e : W α) e := fun _ _ q => q
theorem Th.bind {m : W α} {f : α → W β} {e : Exn} (h : Th m e) : Th (m >>= f) e := fun P E q => h _ _ q
theorem Gv.bindT {m : W α} {f : α → W β} {a : α} {e : Exn} (h : Gv m a) (k : Th (f a) e) : Th (m >>= f) e := fun P E q => h _ _ (k P E q)
theorem Th.need {p : Prop} {f : Unit → W β} {e : Exn} (h : p) (k : Th (f ()) e) : Th (W.need p >>= f) e := (Gv.need h).bindT k
theorem Th.fors {f : α → Unit → W (Res Unit β Unit)} {e : Exn} {x : α} {bs : List α} (h : Th (f x ()) e) : ∀ {as : List α}, (∀ a ∈ as, Gv (f a ()) (.nx ())) → Th (forW (L := L) f (as ++ x :: bs) ()) e
  | [], _ => h.bind
  | a :: as, k => (k a List.mem_cons_self).bindT (Th.fors h fun y hy => k y (List.mem_cons_of_mem _ hy))
theorem Gv.tryT {mb : W (Res S β Empty)} {t : Nat → Option Bool} {k : Exn → W (Res S β L)} {hs : List ((Nat → Option Bool) × (Exn → W (Res S β L)))} {e : Exn} {r : Res S β L} (h : Th mb e) (ht : t e.cls = some true) (hk : Gv (k e) r) : Gv (tryW mb ((t, k) :: hs)) r := fun P E q => by
  refine h _ _ ?_
  show hdW P E ((t, k) :: hs) e
  unfold hdW
  rw [ht]
  exact hk _ _ q
end
theorem r_take (b : Bag) (k : Int) (h : 0 < k) (h2 : k < 2 ^ 8000) : Rn (w_take b k) fun r => 0 ≤ r ∧ r < k := fun P E q => ⟨⟨h, h2⟩, fun r hr => q r hr⟩
theorem big8000 {k : Int} (h : k < 2 ^ 200) : k < 2 ^ 8000 := by
  have e : (2 : Int) ^ 8000 = 2 ^ 200 * 2 ^ 7800 := by rw [← Int.pow_add]
  have p : (1 : Int) ≤ 2 ^ 7800 := Int.pow_pos (by decide)
  have q : (0 : Int) < 2 ^ 200 := Int.pow_pos (by decide)
  rw [e]
  refine Int.lt_of_lt_of_le h ?_
  have := Int.mul_le_mul_of_nonneg_left p (Int.le_of_lt q)
  rwa [Int.mul_one] at this
end TW
set_option Elab.async false
set_option maxRecDepth 100000
set_option maxHeartbeats 4000000
set_option linter.all false
set_option autoImplicit false
/-! TW27: while; name op= e; a list of maybe's that are all there -/
namespace TW
open Pa (rep)
open PaL (repL)
open PySem PySem.Spec PyProof.Rows L2 My
section
variable {Γ : Cxt} {A A' : Av} {H H' : Hp} {σ : L2.St} {δ δ' : List Sl} {S S1 β L α : Type} [Pa β] {Δ : S → List Sl} {ΔL : L → List Sl} {D : Ends} {ts t u tb : TS} {te : TE}
theorem st_aug {i : Nat} {op : Int → Int → Int} {a : Int} {m : W Int} (h : EvT Γ te δ m) (hs : δ[i]? = some (.fx Int a) := by rfl) (hi : i < δ.length := by first | decide | simp) : StT (β := β) (L := L) Γ (tAug i te (ipI op)) δ (m >>= fun b => pure (.nx (op a b))) (fun a => δ.set i (.fx Int a)) ΔL := fun σ A H D I q => by
  obtain ⟨o, e, v, rfl, r⟩ := I.at_ _ _ hs
  have r : v = .int a := r
  subst r
  refine ⟨_, e, ?_⟩
  refine h σ A H _ I (m.mono (fun b q w A' H' s rb => ?_) (fun _ h => h) q)
  have rb : w = .int b := rb
  subst rb
  exact ⟨a, b, rfl, rfl, q _ A' H' (I.stepMv s) ((I.step s).fx (show rep Γ.G A' H' (V.int (op a b)) (op a b) from rfl) hi)⟩
/-- maybe's that are all there -/
def allSome {α : Type} : List (Option α) → Option (List α)
  | [] => Option.some []
  | none :: _ => none
  | Option.some a :: r => (allSome r).map (a :: ·)
theorem All2.allS [Py α] {G : Gx} {vs : List V} : ∀ {xs : List (Option α)} {ys : List α}, All2 (rep G A H) vs xs → allSome xs = Option.some ys → All2 (rep G A H) vs ys
  | [], ys, k, e => by cases e; cases k; exact .nil
  | none :: _, ys, k, e => by cases e
  | Option.some a :: r, ys, k, e => by
    unfold allSome at e
    obtain ⟨z, e1, e2⟩ := Option.map_eq_some_iff.mp e
    subst e2
    cases k with
    | cons h t => exact .cons h.2 (All2.allS t e1)
theorem ev_allS [Py α] {m : W (Tup (Option α))} (h : EvT Γ te δ m) : EvT Γ te δ (m >>= fun t => W.get (allSome t.l) >>= fun l => (pure (Tup.mk l) : W (Tup α))) := fun σ A H Q I q => by
  refine h σ A H _ I (m.mono (fun t q v A' H' s r => ?_) (fun _ h => h) q)
  obtain ⟨l, e, q⟩ := q
  obtain ⟨p, vs, e1, e2, k⟩ := r
  exact q v A' H' s ⟨p, vs, e1, e2, All2.allS k e⟩
end
end TW
set_option Elab.async false
set_option maxRecDepth 100000
set_option maxHeartbeats 4000000
set_option linter.all false
set_option autoImplicit false
/-! TW28: tuple + tuple; defs that take what is left over as a tuple -/
namespace TW
open Pa (rep)
open PaL (repL)
open PySem PySem.Spec PyProof.Rows L2 My
section
variable {Γ : Cxt} {A A' : Av} {H H' : Hp} {σ : L2.St} {δ δ' : List Sl} {S L α β γ τ τ2 : Type} {te : TE} {tl : TA}
theorem ov_catT [Py α] : OpV Γ (rCatA Γ.G.K) (fun (a b : Tup α) => W.need (a.l.length + b.l.length ≤ sizeLine) >>= fun _ => (pure (Tup.mk (a.l ++ b.l)) : W (Tup α))) := fun x y A H Q a b d hx hy q => by
  obtain ⟨p, vs, rfl, h, k⟩ := hx
  obtain ⟨p2, vs2, rfl, h2, k2⟩ := hy
  obtain ⟨hz, q⟩ := q
  refine ⟨p, p2, vs, vs2, rfl, rfl, h.sq, h2.sq, by rw [k.len, k2.len]; exact hz, fun e => ?_, fun _ e => ?_, fun _ _ r n => ?_⟩
  · subst e
    have ea : a.l = [] := by
      have := k.len
      exact List.length_eq_zero_iff.mp this.symm
    exact q _ A H (St.refl d) ⟨p2, vs2, rfl, h2, by rw [ea]; exact k2⟩
  · subst e
    have eb : b.l = [] := List.length_eq_zero_iff.mp k2.len.symm
    exact q _ A H (St.refl d) ⟨p, vs, rfl, h, by rw [eb, List.append_nil]; exact k⟩
  · have s : TW.St A H A (upd H r (.tup (vs ++ vs2))) := St.new d n
    exact q _ A _ s ⟨r, _, rfl, .inl ⟨d.nm n, upd_same⟩, (k.app k2).imp fun _ _ z => Pa.st z d s⟩
/-! ### def f(a, .., *v) -/
theorem pe_callR {X : Cx} {CX : CXT} {k : Nat} {f : Addr} {sp : Sp} {E : XK} {x : Str} {p pos : Pos} {e : Expr} {es : List Expr} {t : TA} (F : FnR X.prog X.w X.K X.mg X.base CX k f sp) (hr : Room k X.A) (hg : Gl X x) (hm : X.mg x = some (.ref f)) (hk : PySem.W.keepIn X.K (.ref f) = true) (hx : Passes CX X E)
    (ha : PA X (e :: es) t) (hdb : (x == ("__debug__" : Str)) = false := by decide) (he : starEach (e :: es) X.env = (false, eval e X.env) :: starEach es X.env := by rfl) (hpl : (backTo pos (starEach es X.env)).any (·.1) = false := by rfl) :
    PE X (.Call (.Name x p) (e :: es) [] pos) (fun σ H Q => t σ H fun vs H1 => sp vs H1 Q E) := by
  refine ⟨fun pins s σ H Q I h => ?_⟩
  refine wpAny_Call_Name_kw (ld_glob I hg hm ?_ hdb)
  refine PySem.W.callWith_K (h₀ := X.base) I.ok.mod.kin hk (thn (ha.run pos pins s σ H _ I h) fun us s1 ⟨vs, H1, I1, r, q⟩ => ⟨I1.kIn, ?_⟩) he hpl
  exact wpAny_call (run_fnR F hr hx I1 r q)
theorem ev_callR [PaL τ] [Pa β] {f : τ → W β} {m : W τ} (h : EvA Γ tl δ m) : EvT Γ (fun σ H Q => tl σ H fun vs H1 => SpF Γ.G f vs H1 Q Γ.E) δ (m >>= f) := fun σ A H Q I q => by
  refine h σ A H _ I (m.mono (fun t q vs A1 H1 s1 r1 => ?_) (fun _ h => h) q)
  exact ⟨A1, t, s1.d, r1, (f t).mono (fun b q v A2 H2 s2 r2 => q v A2 H2 (s1.trans s2) r2) (fun e he => I.erq s1 e he) q⟩
/-- what is left over -/
class RestL (τ α : Type) [PaL τ] [Py α] where
  to : τ → List α
  ok : ∀ {G A H vs} {t : τ}, repL G A H vs t → All2 (rep G A H) vs (to t)
instance [Py α] : RestL Nl α := ⟨fun _ => [], fun {G A H vs t} h => by rw [show vs = [] from h]; exact .nil⟩
instance [Py α] [PaL τ] [RestL τ α] : RestL (Cn α τ) α := ⟨fun t => t.a :: RestL.to t.r, fun {G A H vs t} ⟨v, r, e, h, k⟩ => by rw [e]; exact .cons h (RestL.ok k)⟩
/-- arguments as given, and as they are bound -/
structure Stc (τ α τ2 : Type) [PaL τ] [Py α] [PaL τ2] where
  n : Nat
  cv : τ → τ2
  ok : ∀ {G A H vs} {t : τ}, repL G A H vs t → ∃ (ws rest : List V), vs = ws ++ rest ∧ ws.length = n ∧ rest.length + n = PaL.n τ ∧ ∀ (A' : Av) (H' : Hp) (p : Addr), Dom A H → TW.St A H A' H' → ¬ A'.M p → H' p = some (.tup rest) → repL G A' H' (ws ++ [V.ref p]) (cv t)
def stc0 [Py α] [PaL τ] [RestL τ α] : Stc τ α (Cn (Tup α) Nl) where
  n := 0
  cv := fun t => ⟨⟨RestL.to t⟩, ⟨⟩⟩
  ok := fun {G A H vs t} h => ⟨[], vs, rfl, rfl, PaL.lenL h, fun A' H' p d s n e => ⟨V.ref p, [], rfl, ⟨p, vs, rfl, .inl ⟨n, e⟩, (RestL.ok h).imp fun _ _ r => Pa.st r d s⟩, rfl⟩⟩
def stcS [Py α] [Pa γ] [PaL τ] [PaL τ2] (s : Stc τ α τ2) : Stc (Cn γ τ) α (Cn γ τ2) where
  n := s.n + 1
  cv := fun t => ⟨t.a, s.cv t.r⟩
  ok := fun {G A H vs t} ⟨v, r, e, h, k⟩ => by
    obtain ⟨ws, rest, e2, hl, hn, hh⟩ := s.ok k
    refine ⟨v :: ws, rest, by rw [e, e2]; rfl, by rw [List.length_cons, hl], ?_, fun A' H' p d st n ep => ⟨v, ws ++ [V.ref p], rfl, Pa.st h d st, hh A' H' p d st n ep⟩⟩
    show rest.length + (s.n + 1) = PaL.n τ + 1
    omega
/-- the promise of such a def -/
def SpSt [PaL τ2] [Pa β] (n : Nat) (G : Gx) (m : τ2 → W β) : Sp := fun vs H Q E => ∃ ws rest, vs = ws ++ rest ∧ ws.length = n ∧ rest.length ≤ sizeLine ∧ ∀ p, H p = Option.none → SpF G m (ws ++ [V.ref p]) (upd H p (.tup rest)) Q E
theorem star_ok {P : Program} {w : World} {K : PySem.W.Frag} {mg : Str → Option Value} {base : Heap} {cls : Nat → Addr} {x qual pv : Str} {st : Stmt} {f : Addr} {fd : FuncData} {N ps : List Str} {k : Nat} [PaL τ2] [ArL τ2] [Pa β] (m : τ2 → W β) (F : Fun K x qual st f fd) (S : FnScope N (ps ++ [pv]) (defScope st))
    (hn : PaL.n τ2 ≤ N.length)
    (hb : ∀ (kV doc pm cdv ct : Value) (an : Option Addr) (us rest : List Value), us.length = ps.length → bindArgs (PySem.W.fnOf x qual (defArgs st) (defBody st) (defScope st) .none kV doc pm an cdv ct) ⟨us ++ rest, []⟩ = (newTuple rest >>= fun t => pure (ps.zip us ++ [(pv, t)])))
    (body : ∀ (cdv : Value) (A : Around) (outer : List Env) (s : Shared) (H : Hp) (E : XK) (A0 : Av) (Er : Exn → Prop) (t : τ2), Room k (A.deeper (envOfC qual (defScope st) s.heap.objs.size f cdv)) →
      ∃ ts, PSs (cxOf (L2.CX P w) P w K mg base N qual (defScope st) f cdv A outer s H E) (defBody st) ts ∧ BodyOk ⟨⟨K, cls⟩, A0, H, E, Er⟩ ts (ArL.sls t ++ List.replicate (N.length - PaL.n τ2) .un) (m t)) :
    FnR P w K mg base (L2.CX P w) (k + 1) f (SpSt ps.length ⟨K, cls⟩ m) := by
  obtain ⟨oc, od, kV, doc, pm, an, cdv, ct, osl, rfl, lk, hcd⟩ := F.ex
  refine StX.fn_star lk hcd S StX.cxUp (fun us rest hl => hb _ _ _ _ _ _ us rest hl) fun A outer s H vs Q E hr h => ?_
  obtain ⟨A0, t, d, r, q⟩ := h
  obtain ⟨ts, hp, hb⟩ := body cdv A outer s H E A0 (fun e => ∀ cl d A' H', TW.St A0 H A' H' → ExR ⟨K, cls⟩ A' H' e cl d → E cl d H') t hr
  exact ⟨ts, hp, hb _ A0 H Q (iv_start d r hn fun e cl d A' H' h s x => h cl d A' H' s x) q⟩
theorem star_at {P : Program} {w : World} {K : PySem.W.Frag} {mg : Str → Option Value} {base : Heap} {f : Addr} {k n : Nat} {G : Gx} [PaL τ] [Py α] [PaL τ2] [Pa β] {m : τ2 → W β} (F : FnR P w K mg base (L2.CX P w) k f (SpSt n G m)) (s : Stc τ α τ2) (hn : s.n = n) (hz : PaL.n τ ≤ 900) :
    FnR P w K mg base (L2.CX P w) k f (SpF G fun t : τ => m (s.cv t)) := F.imp fun vs H Q E h => by
  obtain ⟨A, t, d, r, q⟩ := h
  obtain ⟨ws, rest, e, hl, hr, hh⟩ := s.ok r
  refine ⟨ws, rest, e, hl.trans hn, by rw [sizeLine_eq]; omega, fun p np => ?_⟩
  have s1 : TW.St A H A (upd H p (.tup rest)) := St.new d np
  exact ⟨A, s.cv t, s1.d, hh A _ p d s1 (d.nm np) upd_same, (m (s.cv t)).mono (fun b q v A' H' s2 r2 => q v A' H' (s1.trans s2) r2) (fun e q cl d A' H' s2 x => q cl d A' H' (s1.trans s2) x) q⟩
end
end TW
set_option Elab.async false
set_option maxRecDepth 100000
set_option maxHeartbeats 4000000
set_option linter.all false
set_option autoImplicit false
/-! TW29: defs that change the lists they are given -/
namespace TW
open Pa (rep)
open PaL (repL)
open PySem PySem.Spec PyProof.Rows L2 My
/-- what does not lean on the heap -/
class Flt (α : Type) [Py α] : Prop where
  any : ∀ {G A H A' H' v} {a : α}, rep G A H v a → rep G A' H' v a
instance : Flt Int := ⟨fun h => h⟩
instance : Flt Bool := ⟨fun h => h⟩
instance : Flt Str := ⟨fun h => h⟩
instance : Flt Unit := ⟨fun h => h⟩
instance {α : Type} [Py α] [Flt α] : Flt (Option α) := ⟨fun {G A H A' H' v a} h => match a, h with | none, h => h | some _, h => ⟨h.1, Flt.any h.2⟩⟩
/-- arguments that are kept -/
class PyL (τ : Type) extends PaL τ where
  mvL : ∀ {G A H A' H' vs} {t : τ}, repL G A H vs t → Mv A H A' H' → repL G A' H' vs t
  sl : τ → List Sl
  slen : ∀ t, (sl t).length = toPaL.n
  sok : ∀ {G A H vs} {t : τ}, repL G A H vs t → ∀ (A0 : Av) (H0 : Hp) (i : Nat) (s : Sl), (sl t)[i]? = some s → ∃ v, vs[i]? = some v ∧ SlR G A0 H0 A H (some v) s
  sno : ∀ t s, s ∈ sl t → s.own = false
instance : PyL Nl where
  mvL := fun h _ => h
  sl := fun _ => []
  slen := fun _ => rfl
  sok := fun _ _ _ i s e => by simp at e
  sno := fun _ s h => by simp at h
instance {α τ : Type} [Py α] [PyL τ] : PyL (Cn α τ) where
  mvL := fun ⟨v, r, e, h, k⟩ m => ⟨v, r, e, Py.mv h m, PyL.mvL k m⟩
  sl := fun t => .fx α t.a :: PyL.sl t.r
  slen := fun t => by rw [List.length_cons, PyL.slen t.r]; rfl
  sok := fun {G A H vs t} ⟨v, r, e, h, k⟩ A0 H0 i s es => by
    subst e
    cases i with
    | zero => cases es; exact ⟨v, rfl, v, rfl, h⟩
    | succ i => exact PyL.sok k A0 H0 i s es
  sno := fun t s h => by
    rcases List.mem_cons.mp h with rfl | h
    · rfl
    · exact PyL.sno t.r s h
/-- lists of our own, at these places -/
class ML (μ : Type) where
  n : Nat
  rp : Gx → Av → Hp → List Addr → μ → Prop
  sl : List Addr → μ → List Sl
  len : ∀ {G A H ps u}, rp G A H ps u → ps.length = n
  slen : ∀ {ps} {u : μ}, ps.length = n → (sl ps u).length = n
  st : ∀ {G A H A' H' ps u}, rp G A H ps u → St A H A' H' → rp G A' H' ps u
  flat : ∀ {G A H A' ps u}, rp G A H ps u → (∀ p ∈ ps, A'.M p ∧ ¬ A'.B p) → rp G A' H ps u
  own : ∀ {G A H ps u}, rp G A H ps u → ∀ p ∈ ps, A.M p ∧ ¬ A.B p ∧ H p ≠ none
  sok : ∀ {G A H ps u}, rp G A H ps u → ∀ (A0 : Av) (H0 : Hp), (∀ p ∈ ps, H0 p = none) → ∀ (i : Nat) (s : Sl), (sl ps u)[i]? = some s → ∃ p, ps[i]? = some p ∧ s.own = true ∧ SlR G A0 H0 A H (some (.ref p)) s
instance : ML Nl where
  n := 0
  rp := fun _ _ _ ps _ => ps = []
  sl := fun _ _ => []
  len := fun h => by rw [h]; rfl
  slen := fun _ => rfl
  st := fun h _ => h
  flat := fun h _ => h
  own := fun h p hp => by rw [h] at hp; cases hp
  sok := fun _ _ _ _ i s e => by simp at e
instance {α μ : Type} [Py α] [Flt α] [ML μ] : ML (Cn (List α) μ) where
  n := ML.n μ + 1
  rp := fun G A H ps u => ∃ p r vs, ps = p :: r ∧ A.M p ∧ ¬ A.B p ∧ H p = some (.lst vs) ∧ All2 (rep G A H) vs u.a ∧ ML.rp G A H r u.r
  sl := fun ps u => match ps with | [] => [] | p :: r => .mp α p u.a :: ML.sl r u.r
  len := fun ⟨p, r, vs, e, _, _, _, _, k⟩ => by rw [e, List.length_cons, ML.len k]
  slen := fun {ps u} h => by
    cases ps with
    | nil => cases h
    | cons p r => show (_ :: ML.sl r u.r).length = _; rw [List.length_cons, ML.slen (u := u.r) (by simpa using h)]
  st := fun ⟨p, r, vs, e, m, b, h, k, z⟩ s => ⟨p, r, vs, e, s.ms p m, fun b' => (s.nb p b').elim b (fun y => by rw [h] at y; cases y), s.k p _ b h, k.imp fun _ _ r => Flt.any r, ML.st z s⟩
  flat := fun ⟨p, r, vs, e, m, b, h, k, z⟩ s => by
    subst e
    have sp := s p List.mem_cons_self
    exact ⟨p, r, vs, rfl, sp.1, sp.2, h, k.imp fun _ _ r => Flt.any r, ML.flat z fun q hq => s q (List.mem_cons_of_mem _ hq)⟩
  own := fun ⟨p, r, vs, e, m, b, h, k, z⟩ q hq => by
    subst e
    rcases List.mem_cons.mp hq with y | y
    · subst y; exact ⟨m, b, by rw [h]; exact nofun⟩
    · exact ML.own z q y
  sok := fun {G A H ps u} ⟨p, r, vs, e, m, b, h, k, z⟩ A0 H0 h0 i s es => by
    subst e
    cases i with
    | zero =>
      have es : some (Sl.mp α p u.a) = some s := es
      cases es
      exact ⟨p, rfl, rfl, p, _, rfl, m, b, h0 p List.mem_cons_self, h, rfl, vs, rfl, k⟩
    | succ i =>
      obtain ⟨q, h1, h2, h3⟩ := ML.sok z A0 H0 (fun q hq => h0 q (List.mem_cons_of_mem _ hq)) i s es
      exact ⟨q, h1, h2, h3⟩
def AvB (A : Av) : Av := ⟨A.B, A.B⟩
def AvP (A : Av) (ps : List Addr) : Av := ⟨A.B, fun q => A.B q ∨ q ∈ ps⟩
open Classical in
noncomputable def eraL (H : Hp) (ps : List Addr) : Hp := fun q => if q ∈ ps then none else H q
theorem era_in {H : Hp} {ps : List Addr} {q : Addr} (h : q ∈ ps) : eraL H ps q = none := if_pos h
theorem era_out {H : Hp} {ps : List Addr} {q : Addr} (h : q ∉ ps) : eraL H ps q = H q := if_neg h
theorem era_some {H : Hp} {ps : List Addr} {q : Addr} {o : HO} (h : eraL H ps q = some o) : q ∉ ps ∧ H q = some o := by
  by_cases z : q ∈ ps
  · rw [era_in z] at h; cases h
  · rw [era_out z] at h; exact ⟨z, h⟩
/-- the promise of a def that changes its last arguments, lists -/
def SpM {τ μ β : Type} [PyL τ] [ML μ] [Pa β] (G : Gx) (m : τ → μ → W (Cn β μ)) : Sp := fun vs H Q _ => ∃ (A : Av) (ws : List V) (ps : List Addr) (t : τ) (u : μ), vs = ws ++ ps.map V.ref ∧ Dom (AvP A ps) H ∧ ps.Nodup ∧ repL G (AvP A ps) H ws t ∧ ML.rp G (AvP A ps) H ps u ∧
  (m t u).run (fun r => ∀ v A' H', TW.St (AvB A) (eraL H ps) A' H' → rep G A' H' v r.a → ML.rp G A' H' ps r.r → Q v H') fun _ => False
@[reducible] def paM {β μ : Type} [Pa β] [ML μ] (ps : List Addr) : Pa (Cn β μ) where
  rep := fun G A H v r => rep G A H v r.a ∧ ML.rp G A H ps r.r
  st := fun h d s => ⟨Pa.st h.1 d s, ML.st h.2 s⟩
section
variable {Γ : Cxt} {A A' : Av} {H H' : Hp} {σ : L2.St} {δ δ' : List Sl} {S L α β γ τ μ : Type} {Δ : S → List Sl} {ΔL : L → List Sl} {te : TE} {tl ta : TA}
theorem iv_startM [PyL τ] [ML μ] {G : Gx} {ws : List V} {ps : List Addr} {t : τ} {u : μ} {N : List Str} {E : XK} (d : Dom (AvP A ps) H) (nd : ps.Nodup) (h : repL G (AvP A ps) H ws t) (hu : ML.rp G (AvP A ps) H ps u) (hn : PaL.n τ + ML.n μ ≤ N.length) :
    Iv ⟨G, AvB A, eraL H ps, E, fun _ => False⟩ (AvP A ps) H (L2.start N (ws ++ ps.map V.ref)) (PyL.sl t ++ ML.sl ps u ++ List.replicate (N.length - (PaL.n τ + ML.n μ)) .un) := by
  have hl := PaL.lenL h
  have hs := PyL.slen t
  have hp := ML.len hu
  have hsm := ML.slen (u := u) hp
  have hL : (PyL.sl t ++ ML.sl ps u).length = PaL.n τ + ML.n μ := by rw [List.length_append, hs, hsm]
  have hV : (ws ++ ps.map V.ref).length = PaL.n τ + ML.n μ := by rw [List.length_append, List.length_map, hl, hp]
  have at1 : ∀ (i : Nat) (s : Sl), (PyL.sl t ++ ML.sl ps u)[i]? = some s → ∃ v, (ws ++ ps.map V.ref)[i]? = some v ∧ SlR G (AvB A) (eraL H ps) (AvP A ps) H (some v) s ∧ (s.own = true → ∃ p, v = .ref p ∧ i ≥ PaL.n τ ∧ ps[i - PaL.n τ]? = some p) := fun i s e => by
    by_cases hi : i < (PyL.sl t).length
    · rw [List.getElem?_append_left hi] at e
      obtain ⟨v, e1, r⟩ := PyL.sok h (AvB A) (eraL H ps) i s e
      have hi2 : i < ws.length := by rw [hl, ← (show _ = PaL.n τ from hs)]; exact hi
      refine ⟨v, by rw [List.getElem?_append_left hi2]; exact e1, r, fun o => ?_⟩
      rw [PyL.sno t s (List.mem_of_getElem? e)] at o
      cases o
    · have hi0 : (PyL.sl t).length ≤ i := by omega
      have hs' : (PyL.sl t).length = PaL.n τ := hs
      rw [List.getElem?_append_right hi0] at e
      obtain ⟨p, e1, o, r⟩ := ML.sok hu (AvB A) (eraL H ps) (fun p hp => era_in hp) _ s e
      rw [hs'] at e1
      refine ⟨.ref p, ?_, r, fun _ => ⟨p, rfl, by omega, e1⟩⟩
      rw [List.getElem?_append_right (by omega), hl, List.getElem?_map, e1]
      rfl
  refine ⟨?_, fun i s e => ?_, fun i j s u' p hij ei ej oi oj pi pj => ?_, ?_, ?_, fun _ _ _ _ _ z => z.elim⟩
  · unfold L2.start
    rw [List.length_append, List.length_map, List.length_replicate, hV, List.length_append, hL, List.length_replicate]
  · by_cases hi : i < (PyL.sl t ++ ML.sl ps u).length
    · rw [List.getElem?_append_left hi] at e
      obtain ⟨v, e1, r, _⟩ := at1 i s e
      refine ⟨some v, ?_, r⟩
      unfold L2.start
      rw [List.getElem?_append_left (by rw [List.length_map, hV, ← hL]; exact hi), List.getElem?_map, e1]
      rfl
    · rw [List.getElem?_append_right (by omega), List.getElem?_replicate] at e
      split at e
      · rename_i hlt
        cases e
        refine ⟨none, ?_, trivial⟩
        unfold L2.start
        rw [List.getElem?_append_right (by rw [List.length_map, hV, ← hL]; omega), List.getElem?_replicate, List.length_map, hV, ← hL, if_pos]
        rw [hL] at hlt ⊢
        omega
      · cases e
  · have pin : ∀ (i : Nat) (s : Sl), (PyL.sl t ++ ML.sl ps u ++ List.replicate (N.length - (PaL.n τ + ML.n μ)) Sl.un)[i]? = some s → s.own = true → ∀ q, (L2.start N (ws ++ ps.map V.ref))[i]? = some (some (.ref q)) → i ≥ PaL.n τ ∧ ps[i - PaL.n τ]? = some q := fun i s e o q eq => by
      by_cases hi : i < (PyL.sl t ++ ML.sl ps u).length
      · rw [List.getElem?_append_left hi] at e
        obtain ⟨v, e1, _, k⟩ := at1 i s e
        obtain ⟨p', ev, h1, h2⟩ := k o
        unfold L2.start at eq
        rw [List.getElem?_append_left (by rw [List.length_map, hV, ← hL]; exact hi), List.getElem?_map, e1] at eq
        subst ev
        have : p' = q := by
          have := Option.some.inj (Option.some.inj eq)
          exact V.ref.inj this
        subst this
        exact ⟨h1, h2⟩
      · rw [List.getElem?_append_right (by omega), List.getElem?_replicate] at e
        split at e
        · cases e; cases o
        · cases e
    obtain ⟨i1, i2⟩ := pin i s ei oi p pi
    obtain ⟨j1, j2⟩ := pin j u' ej oj p pj
    obtain ⟨hi3, e3⟩ := List.getElem?_eq_some_iff.mp i2
    obtain ⟨hj3, e4⟩ := List.getElem?_eq_some_iff.mp j2
    have := nd
    rw [List.nodup_iff_pairwise_ne, List.pairwise_iff_getElem] at this
    rcases Nat.lt_or_ge (i - PaL.n τ) (j - PaL.n τ) with z | z
    · exact this _ _ hi3 hj3 z (e3.trans e4.symm)
    · exact this _ _ hj3 hi3 (by omega) (e4.trans e3.symm)
  · refine ⟨fun p m => ?_, fun p b => ?_, fun p b => b⟩
    · have np : p ∉ ps := fun z => (ML.own hu p z).2.1 m
      show eraL H ps p ≠ none
      rw [era_out np]
      exact d.m p (.inl m)
    · have np : p ∉ ps := fun z => (ML.own hu p z).2.1 b
      show ∃ o, eraL H ps p = some o ∧ BagO o
      rw [era_out np]
      exact d.b p b
  · refine ⟨fun p m => .inl m, fun p b => b, fun p m => m.elim .inl fun z => .inr (era_in z), fun p b => .inl b, fun a o _ e => (era_some e).2, d⟩
end
end TW
set_option Elab.async false
set_option maxRecDepth 100000
set_option maxHeartbeats 4000000
set_option linter.all false
set_option autoImplicit false
/-! TW30: defs that change the lists they are given: the def, the call -/
namespace TW
open Pa (rep)
open PaL (repL)
open PySem PySem.Spec PyProof.Rows L2 My
section
variable {Γ : Cxt} {A A' : Av} {H H' : Hp} {σ : L2.St} {δ δ' : List Sl} {S L α β γ τ μ : Type} {Δ : S → List Sl} {ΔL : L → List Sl} {te ti : TE} {tl ta : TA}
theorem def_okM {P : Program} {w : World} {K : PySem.W.Frag} {mg : Str → Option Value} {base : Heap} {cls : Nat → Addr} {x qual : Str} {st : Stmt} {f : Addr} {fd : FuncData} {N ps0 : List Str} {k : Nat} [PyL τ] [ML μ] [Pa β] (m : τ → μ → W (Cn β μ)) (F : Fun K x qual st f fd) (S : FnScope N ps0 (defScope st))
    (hn : PaL.n τ + ML.n μ = ps0.length) (hn2 : PaL.n τ + ML.n μ ≤ N.length)
    (body : ∀ (cdv : Value) (A : Around) (outer : List Env) (s : Shared) (H : Hp) (E : XK) (A0 : Av) (H0 : Hp) (ps : List Addr) (t : τ) (u : μ), ps.length = ML.n μ → Room k (A.deeper (envOfC qual (defScope st) s.heap.objs.size f cdv)) →
      ∃ ts, PSs (cxOf (L2.CX P w) P w K mg base N qual (defScope st) f cdv A outer s H E) (defBody st) ts ∧ @BodyOk (Cn β μ) (paM ps) ⟨⟨K, cls⟩, A0, H0, E, fun _ => False⟩ ts (PyL.sl t ++ ML.sl ps u ++ List.replicate (N.length - (PaL.n τ + ML.n μ)) .un) (m t u)) :
    FnOk P w K mg base (L2.CX P w) (k + 1) f fd ps0 (SpM ⟨K, cls⟩ m) := by
  refine F.okX S (fun vs H Q E h => ?_) (fun cdv A outer s H vs Q E hr h => ?_)
  · obtain ⟨A, ws, ps, t, u, e, d, nd, r, hu, q⟩ := h
    rw [e, List.length_append, List.length_map, PaL.lenL r, ML.len hu, hn]
  · obtain ⟨A0, ws, ps, t, u, e, d, nd, r, hu, q⟩ := h
    obtain ⟨ts, hp, hb⟩ := body cdv A outer s H E (AvB A0) (eraL H ps) ps t u (ML.len hu) hr
    subst e
    exact ⟨ts, hp, hb _ (AvP A0 ps) H Q (iv_startM d nd r hu hn2) ((m t u).mono (fun b q v A' H' s z => q v A' H' s z.1 z.2) (fun _ z => z) q)⟩
/-! ### in the def -/
theorem rp_nil (I : Iv Γ A H σ δ) : ML.rp (μ := Nl) Γ.G A H [] ⟨⟩ := rfl
theorem rp_cons [Py α] [Flt α] [ML μ] {i : Nat} {p : Addr} {ps : List Addr} {xs : List α} {u : μ} (h : δ[i]? = some (.mp α p xs)) (k : ∀ {A H σ}, Iv Γ A H σ δ → ML.rp Γ.G A H ps u) (I : Iv Γ A H σ δ) : ML.rp (μ := Cn (List α) μ) Γ.G A H (p :: ps) ⟨xs, u⟩ := by
  obtain ⟨o, e, p', ho, rfl, m, b, n, hh, ep, vs, rfl, z⟩ := I.at_ _ _ h
  subst ep
  exact ⟨p', ps, vs, rfl, m, b, hh, z, k I⟩
theorem st_retMp [Pa β] [ML μ] {ps : List Addr} {u : μ} {m : W β} (h : EvT Γ te δ m) (k : ∀ {A H σ}, Iv Γ A H σ δ → ML.rp Γ.G A H ps u) : @StT S (Cn β μ) L (paM ps) Γ (tRet te) δ (retW (m >>= fun a => (pure (Cn.mk a u) : W (Cn β μ)))) Δ ΔL := fun σ A H D I q => by
  refine h σ A H _ I (m.mono (fun a q v A' H' s r => ?_) (fun _ h => h) q)
  exact q v A' H' (I.st.trans s) ⟨r, k (I.step s)⟩
theorem ev_mp [Py α] {i : Nat} {p : Addr} {xs : List α} (h : δ[i]? = some (.mp α p xs) := by rfl) : EvT (α := Bor α) Γ (tVar i) δ (pure ⟨xs⟩) := fun σ A H Q I q => by
  obtain ⟨o, e, p, ho, rfl, m, b, n, hh, ep, vs, rfl, k⟩ := I.at_ _ _ h
  exact ⟨_, e, q _ A H (St.refl I.dom) ⟨p, vs, rfl, ⟨b, hh⟩, k⟩⟩
theorem st_setitemP [Pa β] [Py α] {i : Nat} {p : Addr} {xs : List α} {m : W α} {mi : W Int} (ht : EvT Γ te δ m) (hk : EvT Γ ti δ mi) (h : δ[i]? = some (.mp α p xs) := by rfl) :
    StT (β := β) (L := L) Γ (tAsg te (gSub (tVar i) ti rSetL)) δ (m >>= fun a => mi >>= fun k => W.need (ixN xs.length k).isSome >>= fun _ => pure (.nx (xs.set ((ixN xs.length k).getD 0) a))) (fun ys => δ.set i (.mp α p ys)) ΔL := fun σ A H D I q => by
  obtain ⟨o, e, p, ho, rfl, hm, b, n, hh, ep, vs, rfl, k⟩ := I.at_ _ _ h
  subst ep
  refine ht σ A H _ I (m.mono (fun a q v A' H' s r => ?_) (fun _ h => h) q)
  refine ⟨_, e, ?_⟩
  refine hk σ A' H' _ (I.step s) (mi.mono (fun j q w A2 H2 s2 r2 => ?_) (fun _ h => h) q)
  obtain ⟨hj, q⟩ := q
  obtain ⟨j', ej⟩ := Option.isSome_iff_exists.mp hj
  have hh' := (s.trans s2).k p _ b hh
  refine ⟨p, vs, j, j', rfl, r2, hh', by rw [k.len]; exact ej, ?_⟩
  rw [ej] at q
  obtain ⟨mv, I'⟩ := ((I.step s).step s2).chg (s' := .mp α p (xs.set j' a)) (u := .lst (vs.set j' v)) h rfl (fun _ _ _ _ _ h => h) e ⟨rfl, _, rfl, ((k.imp fun _ _ r => Pa.st r I.dom (s.trans s2))).set (Pa.st r s.d s2) j'⟩
  exact q σ _ _ ((I.stepMv (s.trans s2)).trans mv) I'
/-! ### the call -/
def PsAt (σ : L2.St) (ps : List Addr) (js : List Nat) : Prop := ps.length = js.length ∧ ∀ (k j : Nat), js[k]? = some j → ∃ p, ps[k]? = some p ∧ σ[j]? = some (some (.ref p))
/-- own lists at slots -/
def Cts [ML μ] (δ : List Sl) (js : List Nat) (u : μ) : Prop := ∀ {Γ : Cxt} {A H σ}, Iv Γ A H σ δ → ∃ ps, PsAt σ ps js ∧ (∀ j ∈ js, ∃ s, δ[j]? = some s ∧ s.own = true) ∧ ML.rp Γ.G A H ps u
theorem cts_nil : Cts (μ := Nl) δ [] ⟨⟩ := fun _ => ⟨[], ⟨rfl, fun k j e => by simp at e⟩, fun j h => by simp at h, rfl⟩
theorem cts_cons [Py α] [Flt α] [ML μ] {j : Nat} {js : List Nat} {xs : List α} {u : μ} (h : δ[j]? = some (.mu α xs)) (k : Cts δ js u) : Cts (μ := Cn (List α) μ) δ (j :: js) ⟨xs, u⟩ := fun {Γ A H σ} I => by
  obtain ⟨ps, ⟨h1, h2⟩, h3, h4⟩ := k I
  obtain ⟨o, e, p, ho, rfl, m, b, n, hh, vs, rfl, z⟩ := I.at_ _ _ h
  refine ⟨p :: ps, ⟨by rw [List.length_cons, List.length_cons, h1], fun k j' e' => ?_⟩, fun j' hj => ?_, p, ps, vs, rfl, m, b, hh, z, h4⟩
  · cases k with
    | zero => cases e'; exact ⟨p, rfl, e⟩
    | succ k => exact h2 k j' e'
  · rcases List.mem_cons.mp hj with y | y
    · subst y; exact ⟨_, h, rfl⟩
    · exact h3 j' y
def EvAM [PaL τ] (Γ : Cxt) (ta : TA) (δ : List Sl) (m : W τ) (js : List Nat) : Prop := ∀ σ A H Q, Iv Γ A H σ δ → ∀ ps, PsAt σ ps js →
  m.run (fun t => ∀ ws A' H', TW.St A H A' H' → repL Γ.G A' H' ws t → Q (ws ++ ps.map V.ref) H') Γ.Er → ta σ H Q
theorem eam_0 : EvAM Γ tNil δ (pure Nl.mk) [] := fun σ A H Q I ps hp q => by
  have e : ps = [] := List.length_eq_zero_iff.mp hp.1
  subst e
  exact q [] A H (St.refl I.dom) rfl
theorem eam_v {j : Nat} {js : List Nat} (h : EvAM (τ := Nl) Γ ta δ (pure Nl.mk) js) : EvAM (τ := Nl) Γ (tCons (tVar j) ta) δ (pure Nl.mk) (j :: js) := fun σ A H Q I ps hp q => by
  obtain ⟨h1, h2⟩ := hp
  obtain ⟨p, e1, e2⟩ := h2 0 j rfl
  cases ps with
  | nil => cases h1
  | cons p' ps =>
    cases e1
    refine ⟨_, e2, h σ A H _ I ps ⟨by simpa using h1, fun k j' e => h2 (k + 1) j' e⟩ fun ws A' H' s r => ?_⟩
    have e : ws = [] := r
    subst e
    exact q [] A' H' s rfl
theorem eam_c [Pa α] [PaL τ] {ma : W α} {ml : W τ} {js : List Nat} (ha : EvT Γ te δ ma) (hl : EvAM Γ tl δ ml js) : EvAM (τ := Cn α τ) Γ (tCons te tl) δ (ma >>= fun a => ml >>= fun r => pure (Cn.mk a r)) js := fun σ A H Q I ps hp q => by
  refine ha σ A H _ I (ma.mono (fun a q v A1 H1 s1 r1 => ?_) (fun _ h => h) q)
  refine hl σ A1 H1 _ (I.step s1) ps hp (ml.mono (fun t q ws A2 H2 s2 r2 => ?_) (fun _ h => h) q)
  exact q (v :: ws) A2 H2 (s1.trans s2) ⟨v, ws, rfl, Pa.st r1 s1.d s2, r2⟩
/-- a list is ours again -/
theorem Iv.reown [Py α] (I : Iv Γ A H σ δ) {j : Nat} {p : Addr} {vs : List V} {xs : List α} (hj : δ[j]? = some .un) (hs : σ[j]? = some (some (.ref p))) (m : A.M p) (b : ¬ A.B p) (n : Γ.H0 p = none) (h : H p = some (.lst vs)) (k : All2 (rep Γ.G A H) vs xs)
    (sep : ∀ (i : Nat) (s : Sl), δ[i]? = some s → s.own = true → σ[i]? = some (some (.ref p)) → False) : Iv Γ A H σ (δ.set j (.mu α xs)) := by
  have hi : j < δ.length := (List.getElem?_eq_some_iff.mp hj).1
  refine ⟨by rw [List.length_set]; exact I.len, fun i s e => ?_, fun i i' s t q hii ei ei' os ot pi pi' => ?_, I.d0, I.st, I.er⟩
  · by_cases hji : j = i
    · subst hji
      rw [List.getElem?_set_self hi] at e
      cases e
      exact ⟨_, hs, p, _, rfl, m, b, n, h, vs, rfl, k⟩
    · rw [List.getElem?_set_ne hji] at e
      exact I.at_ i s e
  · by_cases hji : j = i
    · subst hji
      have hk : j ≠ i' := hii
      rw [List.getElem?_set_ne hk] at ei'
      rw [hs] at pi
      cases pi
      exact sep i' t ei' ot pi'
    · rw [List.getElem?_set_ne hji] at ei
      by_cases hk : j = i'
      · subst hk
        rw [hs] at pi'
        cases pi'
        exact sep i s ei os pi
      · rw [List.getElem?_set_ne hk] at ei'
        exact I.sep i i' s t q hii ei ei' os ot pi pi'
end
/-- contents into slots -/
class MP (μ : Type) [ML μ] where
  put : List Sl → List Nat → μ → List Sl
  iv : ∀ {Γ A H σ δ} {js : List Nat} {ps : List Addr} {u : μ}, Iv Γ A H σ δ → PsAt σ ps js → ps.Nodup → js.Nodup → (∀ j ∈ js, δ[j]? = some .un) → (∀ p ∈ ps, Γ.H0 p = none) → ML.rp Γ.G A H ps u →
    (∀ (i : Nat) (s : Sl) (p : Addr), δ[i]? = some s → s.own = true → σ[i]? = some (some (.ref p)) → p ∉ ps) → Iv Γ A H σ (put δ js u)
  len : ∀ δ js u, (put δ js u).length = δ.length
instance : MP Nl where
  put := fun δ _ _ => δ
  iv := fun I _ _ _ _ _ _ _ => I
  len := fun _ _ _ => rfl
instance {α μ : Type} [Py α] [Flt α] [ML μ] [MP μ] : MP (Cn (List α) μ) where
  put := fun δ js u => match js with | [] => δ | j :: r => MP.put (δ.set j (.mu α u.a)) r u.r
  len := fun δ js u => by
    cases js with
    | nil => rfl
    | cons j r => show (MP.put _ r u.r).length = _; rw [MP.len, List.length_set]
  iv := fun {Γ A H σ δ js ps u} I hp nd nj hu h0 hr sep => by
    cases js with
    | nil => exact I
    | cons j r =>
      obtain ⟨p, rs, vs, e, m, b, h, k, z⟩ := hr
      subst e
      obtain ⟨h1, h2⟩ := hp
      obtain ⟨q, e1, e2⟩ := h2 0 j rfl
      cases e1
      obtain ⟨np, nd⟩ := List.nodup_cons.mp nd
      obtain ⟨njr, nj⟩ := List.nodup_cons.mp nj
      have I2 := I.reown (hu j List.mem_cons_self) e2 m b (h0 p List.mem_cons_self) h k fun i s e o y => sep i s p e o y List.mem_cons_self
      have hj : j < δ.length := (List.getElem?_eq_some_iff.mp (hu j List.mem_cons_self)).1
      refine MP.iv (ps := rs) I2 ⟨by simpa using h1, fun k j' e => h2 (k + 1) j' e⟩ nd nj (fun j' hj' => ?_) (fun p hp => h0 p (List.mem_cons_of_mem _ hp)) z fun i s p' e o y => ?_
      · have : j ≠ j' := fun z => by subst z; exact njr hj'
        rw [List.getElem?_set_ne this]
        exact hu j' (List.mem_cons_of_mem _ hj')
      · by_cases hji : j = i
        · subst hji
          rw [e2] at y
          cases y
          exact np
        · rw [List.getElem?_set_ne hji] at e
          exact fun z => sep i s p' e o y (List.mem_cons_of_mem _ z)
end TW
set_option Elab.async false
set_option maxRecDepth 100000
set_option maxHeartbeats 4000000
set_option linter.all false
set_option autoImplicit false
/-! TW31: x = f(.., l1, l2): the callee changes our lists -/
namespace TW
open Pa (rep)
open PaL (repL)
open PySem PySem.Spec PyProof.Rows L2 My
theorem wipeS_in {δ : List Sl} {j : Nat} (hj : j < δ.length) : ∀ {js : List Nat}, j ∈ js → (wipeS δ js)[j]? = some .un
  | [], h => by cases h
  | v :: vs, h => by
    show ((wipeS δ vs).set v .un)[j]? = _
    by_cases e : v = j
    · subst e
      rw [List.getElem?_set_self (by rw [wipeS_len]; exact hj)]
    · rw [List.getElem?_set_ne e]
      exact wipeS_in hj ((List.mem_cons.mp h).resolve_left (Ne.symm e))
theorem wipeS_out {δ : List Sl} {j : Nat} : ∀ {js : List Nat}, j ∉ js → (wipeS δ js)[j]? = δ[j]?
  | [], _ => rfl
  | v :: vs, h => by
    show ((wipeS δ vs).set v .un)[j]? = _
    have e : v ≠ j := fun z => h (by rw [z]; exact List.mem_cons_self)
    rw [List.getElem?_set_ne e]
    exact wipeS_out fun z => h (List.mem_cons_of_mem _ z)
section
variable {Γ : Cxt} {A A' : Av} {H H' : Hp} {σ : L2.St} {δ δ' : List Sl} {S L α β γ τ μ ρ : Type} {Δ : S → List Sl} {ΔL : L → List Sl} {te ti : TE} {tl ta : TA}
/-- the state after a callee that may change what lies at ps -/
theorem Iv.after (I : Iv Γ A H σ δ) {js : List Nat} {ps : List Addr} (hp : PsAt σ ps js) (own : ∀ j ∈ js, ∃ s, δ[j]? = some s ∧ s.own = true) (nj : js.Nodup) (s : TW.St (AvB A) (eraL H ps) A' H') (pm : ∀ p ∈ ps, A'.M p ∧ ¬ A'.B p) :
    ps.Nodup ∧ (∀ p ∈ ps, Γ.H0 p = none ∧ A.M p ∧ ¬ A.B p) ∧ Mv A H ⟨A'.B, fun q => A'.M q ∨ A.M q⟩ H' ∧ Iv Γ ⟨A'.B, fun q => A'.M q ∨ A.M q⟩ H' σ (wipeS δ js) ∧
      (∀ (i : Nat) (t : Sl) (p : Addr), (wipeS δ js)[i]? = some t → t.own = true → σ[i]? = some (some (.ref p)) → p ∉ ps) := by
  obtain ⟨hl, hp⟩ := hp
  have at_ : ∀ p ∈ ps, ∃ j ∈ js, ∃ t, δ[j]? = some t ∧ t.own = true ∧ σ[j]? = some (some (.ref p)) := fun p h => by
    obtain ⟨k, hk⟩ := List.mem_iff_getElem?.mp h
    have hkl : k < js.length := by rw [← hl]; exact (List.getElem?_eq_some_iff.mp hk).1
    obtain ⟨q, e1, e2⟩ := hp k _ (List.getElem?_eq_getElem hkl)
    rw [hk] at e1
    cases e1
    obtain ⟨t, h1, h2⟩ := own _ (List.getElem_mem hkl)
    exact ⟨_, List.getElem_mem hkl, t, h1, h2, e2⟩
  have po : ∀ p ∈ ps, Γ.H0 p = none ∧ A.M p ∧ ¬ A.B p := fun p h => by
    obtain ⟨j, hj, t, h1, h2, h3⟩ := at_ p h
    obtain ⟨q, o, e, m, b, n, _⟩ := I.own h1 h2
    rw [h3] at e
    cases e
    exact ⟨n, m, b⟩
  have nd : ps.Nodup := by
    rw [List.nodup_iff_pairwise_ne, List.pairwise_iff_getElem]
    intro i j hi hj hij e
    have hi' : i < js.length := by omega
    have hj' : j < js.length := by omega
    obtain ⟨p, e1, e2⟩ := hp i _ (List.getElem?_eq_getElem hi')
    obtain ⟨q, e3, e4⟩ := hp j _ (List.getElem?_eq_getElem hj')
    rw [List.getElem?_eq_getElem hi] at e1
    rw [List.getElem?_eq_getElem hj] at e3
    cases e1
    cases e3
    obtain ⟨t, h1, h2⟩ := own _ (List.getElem_mem hi')
    obtain ⟨u, h3, h4⟩ := own _ (List.getElem_mem hj')
    have ne : js[i] ≠ js[j] := fun z => by
      have := nj
      rw [List.nodup_iff_pairwise_ne, List.pairwise_iff_getElem] at this
      exact this i j hi' hj' hij z
    rw [← e] at e4
    exact I.sep _ _ t u _ ne h1 h3 h2 h4 e2 e4
  have kp : ∀ a o, a ∉ ps → ¬ A.B a → H a = some o → H' a = some o := fun a o n b e => s.k a o b (by rw [era_out n]; exact e)
  have mv : Mv A H ⟨A'.B, fun q => A'.M q ∨ A.M q⟩ H' := by
    refine ⟨fun p m => m.elim (fun m => ?_) .inl, fun a o n e => kp a o (fun z => n (po a z).2.1) (fun b => n (I.dom.s a b)) e, fun p b => ⟨s.bs p b, s.d.b p (s.bs p b)⟩⟩
    rcases s.nm p m with z | z
    · exact .inl (I.dom.s p z)
    · by_cases h : p ∈ ps
      · exact .inl (po p h).2.1
      · rw [era_out h] at z; exact .inr z
  have dom : Dom ⟨A'.B, fun q => A'.M q ∨ A.M q⟩ H' := by
    refine ⟨fun p m => m.elim (s.d.m p) fun m => ?_, s.d.b, fun p b => .inl (s.d.s p b)⟩
    by_cases b : A.B p
    · obtain ⟨o, e, _⟩ := s.d.b p (s.bs p b)
      rw [e]; exact nofun
    · by_cases h : p ∈ ps
      · exact s.d.m p (pm p h).1
      · cases e : H p with
        | none => exact absurd e (I.dom.m p m)
        | some o => rw [kp p o h b e]; exact nofun
  have st : TW.St Γ.A0 Γ.H0 ⟨A'.B, fun q => A'.M q ∨ A.M q⟩ H' := by
    refine ⟨fun p m => .inr (I.st.ms p m), fun p b => s.bs p (I.st.bs p b), fun p m => ?_, fun p b => ?_, fun a o n e => ?_, dom⟩
    · rcases m with m | m
      · rcases s.nm p m with z | z
        · exact I.st.nm p (I.dom.s p z)
        · by_cases h : p ∈ ps
          · exact .inr (po p h).1
          · rw [era_out h] at z; exact .inr (I.st.none z)
      · exact I.st.nm p m
    · rcases s.nb p b with z | z
      · exact I.st.nb p z
      · by_cases h : p ∈ ps
        · exact absurd b (pm p h).2
        · rw [era_out h] at z; exact .inr (I.st.none z)
    · have h1 := I.st.k a o n e
      refine kp a o (fun z => ?_) (fun b => ?_) h1
      · rw [(po a z).1] at e; cases e
      · exact (I.st.nb a b).elim n fun z => by rw [z] at e; cases e
  have sep : ∀ (i : Nat) (t : Sl) (p : Addr), (wipeS δ js)[i]? = some t → t.own = true → σ[i]? = some (some (.ref p)) → p ∉ ps := fun i t p e o y h => by
    by_cases hi : i ∈ js
    · have hlt : i < δ.length := by
        obtain ⟨z, hz, _⟩ := own i hi
        exact (List.getElem?_eq_some_iff.mp hz).1
      rw [wipeS_in hlt hi] at e
      cases e; cases o
    · rw [wipeS_out hi] at e
      obtain ⟨j, hj, u, h1, h2, h3⟩ := at_ p h
      exact I.sep i j t u p (fun z => hi (by rw [z]; exact hj)) e h1 o h2 y h3
  refine ⟨nd, po, mv, ⟨by rw [wipeS_len]; exact I.len, fun i t e => ?_, fun i j t u p hij ei ej ot ou pi pj => ?_, I.d0, st, I.er⟩, sep⟩
  · by_cases hi : i ∈ js
    · have hlt : i < δ.length := by
        obtain ⟨z, hz, _⟩ := own i hi
        exact (List.getElem?_eq_some_iff.mp hz).1
      rw [wipeS_in hlt hi] at e
      cases e
      have : i < σ.length := by rw [I.len]; exact hlt
      exact ⟨_, List.getElem?_eq_getElem this, trivial⟩
    · rw [wipeS_out hi] at e
      obtain ⟨o, e1, r⟩ := I.at_ i t e
      refine ⟨o, e1, ?_⟩
      have ow : t.own = true → OwnAt Γ.G Γ.H0 A H o t → OwnAt Γ.G Γ.H0 ⟨A'.B, fun q => A'.M q ∨ A.M q⟩ H' o t := fun ot ⟨q, ho, e2, m, b, n, hh, k⟩ => by
        have nq : q ∉ ps := sep i t q (by rw [wipeS_out hi]; exact e) ot (by rw [e1, e2])
        refine ⟨q, ho, e2, .inr m, fun z => ?_, n, kp q ho nq b hh, k.mv mv⟩
        rcases s.nb q z with y | y
        · exact b y
        · rw [era_out nq, hh] at y; cases y
      cases t with
      | un => trivial
      | @fx α _ a => obtain ⟨v, e2, r⟩ := r; exact ⟨v, e2, Py.mv r mv⟩
      | @bo α _ xs => obtain ⟨v, p, vs, e2, e3, r, k⟩ := r; exact ⟨v, p, vs, e2, e3, r, k.imp fun _ _ r => Py.mv r mv⟩
      | @mu α _ xs => exact ow rfl r
      | @mp α _ q xs => exact ow rfl r
      | ob C q fs => exact ow rfl r
  · have out : ∀ (i : Nat) (t : Sl), (wipeS δ js)[i]? = some t → t.own = true → δ[i]? = some t := fun i t e o => by
      by_cases hi : i ∈ js
      · have hlt : i < δ.length := by
          obtain ⟨z, hz, _⟩ := own i hi
          exact (List.getElem?_eq_some_iff.mp hz).1
        rw [wipeS_in hlt hi] at e
        cases e; cases o
      · rwa [wipeS_out hi] at e
    exact I.sep i j t u p hij (out i t ei ot) (out j u ej ou) ot ou pi pj
theorem st_callM [PyL τ] [ML μ] [MP μ] [Py β] [Flt β] [Pa ρ] {f : τ → μ → W (Cn β μ)} {m : W τ} {u : μ} {js : List Nat} {i : Nat} {Δ1 : Cn β μ → List Sl} (h : EvAM Γ ta δ m js) (hu : Cts δ js u) (nj : js.Nodup) (hi : i < δ.length := by first | decide | simp) (hD : ∀ r : Cn β μ, (MP.put (wipeS δ js) js r.r).set i (.fx β r.a) = Δ1 r := by intro _; rfl) :
    StT (β := ρ) (L := L) Γ (tAsg (tCall (SpM Γ.G f) [] Γ.E ta) (gName i)) δ (setW (m >>= fun t => (f t u).q)) Δ1 ΔL := fun σ A H D I q => by
  obtain ⟨ps, hp, own, r0⟩ := hu I
  refine h σ A H _ I ps hp (m.mono (fun t q ws A1 H1 s1 r1 => ?_) (fun _ h => h) q)
  have I1 := I.step s1
  have r01 := ML.st r0 s1
  rw [List.append_nil]
  have po1 := ML.own r01
  have nd : ps.Nodup ∧ ∀ p ∈ ps, A1.M p ∧ ¬ A1.B p := by
    refine ⟨?_, fun p hp => ⟨(po1 p hp).1, (po1 p hp).2.1⟩⟩
    have hx : TW.St (AvB A1) (eraL H1 ps) (AvP A1 ps) H1 := by
      refine ⟨fun p m => .inl m, fun p b => b, fun p m => m.elim .inl fun z => .inr (era_in z), fun p b => .inl b, fun a o _ e => (era_some e).2, ?_⟩
      exact ⟨fun p m => m.elim (fun b => I1.dom.m p (I1.dom.s p b)) fun z => (po1 p z).2.2, I1.dom.b, fun p b => .inl b⟩
    exact (I1.after hp own nj hx fun p hp => ⟨.inr hp, (po1 p hp).2.1⟩).1
  have dP : Dom (AvP A1 ps) H1 := ⟨fun p m => m.elim (fun b => I1.dom.m p (I1.dom.s p b)) fun z => (po1 p z).2.2, I1.dom.b, fun p b => .inl b⟩
  have mvP : Mv A1 H1 (AvP A1 ps) H1 := ⟨fun p m => .inl (m.elim (I1.dom.s p) fun z => (po1 p z).1), fun a o _ e => e, fun p b => ⟨b, I1.dom.b p b⟩⟩
  refine ⟨A1, ws, ps, t, u, rfl, dP, nd.1, PyL.mvL r1 mvP, ML.flat r01 fun p hp => ⟨.inr hp, (po1 p hp).2.1⟩, ?_⟩
  refine (f t u).mono (fun r w v A2 H2 s2 rv r2 => ?_) (fun _ z => z) q
  obtain ⟨nd2, po2, mv, I2, sep⟩ := I1.after hp own nj s2 fun p hp => ⟨((ML.own r2) p hp).1, ((ML.own r2) p hp).2.1⟩
  have r3 : ML.rp Γ.G ⟨A2.B, fun q => A2.M q ∨ A1.M q⟩ H2 ps r.r := ML.flat r2 fun p hp => ⟨.inl ((ML.own r2) p hp).1, ((ML.own r2) p hp).2.1⟩
  have hw : ∀ j ∈ js, (wipeS δ js)[j]? = some .un := fun j hj => by
    obtain ⟨z, hz, _⟩ := own j hj
    exact wipeS_in (List.getElem?_eq_some_iff.mp hz).1 hj
  have I3 := MP.iv I2 hp nd2 nj hw (fun p hp => (po2 p hp).1) r3 sep
  have w : Wish Γ A H D Δ1 ΔL (.nx r : Res (Cn β μ) ρ L) := w
  exact w _ _ _ ((I.stepMv s1).trans mv) (hD r ▸ I3.fx (Flt.any rv) (by rw [MP.len, wipeS_len]; exact hi))
end
end TW
set_option Elab.async false
set_option maxRecDepth 100000
set_option maxHeartbeats 4000000
set_option linter.all false
set_option autoImplicit false
/-! TW32: one of two types -/
namespace TW
open Pa (rep)
open PaL (repL)
open PySem PySem.Spec PyProof.Rows L2 My
inductive Sm2 (α β : Type) where
  | a (x : α) | b (x : β)
instance {α β : Type} [Py α] [Py β] : Py (Sm2 α β) where
  rep := fun G A H v s => match s with | .a x => rep G A H v x | .b x => rep G A H v x
  st := fun {G A H A' H' v s} h d t => match s, h with | .a _, h => Pa.st h d t | .b _, h => Pa.st h d t
  mv := fun {G A H A' H' v s} h t => match s, h with | .a _, h => Py.mv h t | .b _, h => Py.mv h t
def Sm2.a? {α β : Type} : Sm2 α β → Option α
  | .a x => some x
  | .b _ => none
def Sm2.b? {α β : Type} : Sm2 α β → Option β
  | .a _ => none
  | .b x => some x
def Sm2.isA {α β : Type} : Sm2 α β → Bool
  | .a _ => true
  | .b _ => false
section
variable {Γ : Cxt} {te : TE} {δ : List Sl} {α β : Type}
theorem ev_s2a [Py α] [Py β] {m : W α} (h : EvT Γ te δ m) : EvT (α := Sm2 α β) Γ te δ (m >>= fun a => pure (Sm2.a a)) := ev_as (Sm2.a (α := α) (β := β)) (fun _ _ _ _ _ r => r) h
theorem ev_s2b [Py α] [Py β] {m : W β} (h : EvT Γ te δ m) : EvT (α := Sm2 α β) Γ te δ (m >>= fun a => pure (Sm2.b a)) := ev_as (Sm2.b (α := α) (β := β)) (fun _ _ _ _ _ r => r) h
theorem ev_g2a [Py α] [Py β] {m : W (Sm2 α β)} (h : EvT Γ te δ m) : EvT Γ te δ (m >>= fun s => W.get s.a?) := fun σ A H Q I q => by
  refine h σ A H _ I (m.mono (fun s q v A' H' st r => ?_) (fun _ h => h) q)
  obtain ⟨x, e, q⟩ := q
  cases s with
  | a y => cases e; exact q v A' H' st r
  | b y => cases e
theorem ev_g2b [Py α] [Py β] {m : W (Sm2 α β)} (h : EvT Γ te δ m) : EvT Γ te δ (m >>= fun s => W.get s.b?) := fun σ A H Q I q => by
  refine h σ A H _ I (m.mono (fun s q v A' H' st r => ?_) (fun _ h => h) q)
  obtain ⟨x, e, q⟩ := q
  cases s with
  | b y => cases e; exact q v A' H' st r
  | a y => cases e
def kd_s2 {G : Gx} [Py α] [Py β] (k : Kd G α) (l : Kd G β) : Kd G (Sm2 α β) := ⟨fun s => match s with | .a x => k.ty x | .b x => l.ty x, fun {A H v s} h => match s, h with | .a _, h => k.ok h | .b _, h => l.ok h⟩
end
end TW
set_option Elab.async false
set_option maxRecDepth 100000
set_option maxHeartbeats 4000000
set_option linter.all false
set_option autoImplicit false
/-! TW33: list(range(n)) -/
namespace TW
open Pa (rep)
open PaL (repL)
open PySem PySem.Spec PyProof.Rows L2 My
section
variable {Γ : Cxt} {te : TE} {δ : List Sl}
theorem rgV_eq (n : Int) : rgV 0 n = (rngL 0 n.toNat).map V.int := by
  unfold rgV rngL
  rw [List.map_map, Int.sub_zero]
  rfl
theorem ef_listRg {m : W Int} (h : EvT Γ te δ m) : EvF Γ (tLstRg (tRg1 te)) δ (m >>= fun j => W.need (0 ≤ j ∧ j ≤ 16777216) >>= fun _ => pure (rngL 0 j.toNat)) := fun σ A H Q I q => by
  refine h σ A H _ I (m.mono (fun j q v A1 H1 s r => ?_) (fun _ h => h) q)
  obtain ⟨⟨h0, h1⟩, q⟩ := q
  have r : v = .int j := r
  subst r
  refine ⟨j, rfl, RgOk.of_le (Int.le_refl _) h1 (by decide) h0, fun p n => ?_⟩
  rw [rgV_eq]
  exact fresh_lst s (ints_all2 _) n q
end
end TW
set_option Elab.async false
set_option maxRecDepth 100000
set_option maxHeartbeats 8000000
set_option linter.all false
set_option autoImplicit false
/-! TWC: the classes of the program, as values -/
namespace TW
open Pa (rep)
open PaL (repL)
open PySem PySem.Spec PyProof.Rows L2 My

structure Order where
  layers : (Tup Int)
instance : Obj Order := ⟨0, fun o => [⟨"layers", (Tup Int), inferInstance, o.layers⟩]⟩
instance : PyO Order := { pyObj Order with toObj := inferInstance, is := Iff.rfl }
structure Saying where
  «where» : Int
  «then» : Int
  usual : Bool
  confirm : Int
  broken : Int
  low : Int
  high : Int
  step : Int
instance : Obj Saying := ⟨1, fun o => [⟨"where", Int, inferInstance, o.«where»⟩, ⟨"then", Int, inferInstance, o.«then»⟩, ⟨"usual", Bool, inferInstance, o.usual⟩, ⟨"confirm", Int, inferInstance, o.confirm⟩, ⟨"broken", Int, inferInstance, o.broken⟩, ⟨"low", Int, inferInstance, o.low⟩, ⟨"high", Int, inferInstance, o.high⟩, ⟨"step", Int, inferInstance, o.step⟩]⟩
instance : PyO Saying := { pyObj Saying with toObj := inferInstance, is := Iff.rfl }
structure Marks where
  names : (Tup Str)
  count : Int
  days : Int
  all_days : Int
instance : Obj Marks := ⟨2, fun o => [⟨"names", (Tup Str), inferInstance, o.names⟩, ⟨"count", Int, inferInstance, o.count⟩, ⟨"days", Int, inferInstance, o.days⟩, ⟨"all_days", Int, inferInstance, o.all_days⟩]⟩
instance : PyO Marks := { pyObj Marks with toObj := inferInstance, is := Iff.rfl }
structure Book where
  marks : Marks
  sayings : (Tup Saying)
instance : Obj Book := ⟨3, fun o => [⟨"marks", Marks, inferInstance, o.marks⟩, ⟨"sayings", (Tup Saying), inferInstance, o.sayings⟩]⟩
instance : PyO Book := { pyObj Book with toObj := inferInstance, is := Iff.rfl }
structure Lifted where
  order : Order
  reasons : (Tup (Option Int))
  heights : (Tup Int)
instance : Obj Lifted := ⟨4, fun o => [⟨"order", Order, inferInstance, o.order⟩, ⟨"reasons", (Tup (Option Int)), inferInstance, o.reasons⟩, ⟨"heights", (Tup Int), inferInstance, o.heights⟩]⟩
instance : PyO Lifted := { pyObj Lifted with toObj := inferInstance, is := Iff.rfl }
structure Stuck where
  days : Int
  reasons : (Tup (Option Int))
  heights : (Tup Int)
instance : Obj Stuck := ⟨5, fun o => [⟨"days", Int, inferInstance, o.days⟩, ⟨"reasons", (Tup (Option Int)), inferInstance, o.reasons⟩, ⟨"heights", (Tup Int), inferInstance, o.heights⟩]⟩
instance : PyO Stuck := { pyObj Stuck with toObj := inferInstance, is := Iff.rfl }
def c_DAY_COUNTS : (Tup Int) := ⟨[2, 4, 8, 16]⟩
def c_KEPT_WORDS : (Tup Str) := ⟨["and", "any", "marks", "need", "never", "not", "or", "usually", "where"]⟩
end TW
set_option Elab.async false
set_option maxRecDepth 100000
set_option maxHeartbeats 8000000
set_option linter.all false
set_option autoImplicit false
/-! programs of plain values -/
namespace TW
open Pa (rep)
open PaL (repL)
open PySem PySem.Spec PyProof.Rows L2 My

def w_l_of (a_bag_here : Bag) (a_some : (Bor Int)) : W Int := finR (S := Unit) (L := Empty) ((retW ((pure (Bor.mk a_some.l) : W (Bor Int)) >>= fun a => (((pure a_bag_here : W Bag) >>= fun a => (((pure (Bor.mk a_some.l) : W (Bor Int)) >>= fun a => (pure (a.l.length : Int) : W Int)) >>= fun a => (pure Nl.mk : W Nl) >>= fun r => (pure (Cn.mk a r) : W (Cn Int Nl))) >>= fun r => (pure (Cn.mk a r) : W (Cn Bag (Cn Int Nl)))) >>= fun t : (Cn Bag (Cn Int Nl)) => w_take t.a t.r.a) >>= fun b => W.get (atI a.l b)) : W (Res Unit Int Empty)) : W (Res Unit Int Empty))
def w_l_layers (a_bag_here : Bag) (a_days : Int) : W (List Int) := finR (S := Unit) (L := Empty) (seqW (S1 := Int) (setW (((pure a_bag_here : W Bag) >>= fun a => (((((pure 1 : W Int) >>= fun a => ((pure 2 : W Int) >>= fun a => ((pure 2 : W Int) >>= fun a => ((pure 3 : W Int) >>= fun a => ((pure 3 : W Int) >>= fun a => (pure [] : W (List Int)) >>= fun r => (pure (a :: r) : W (List Int))) >>= fun r => (pure (a :: r) : W (List Int))) >>= fun r => (pure (a :: r) : W (List Int))) >>= fun r => (pure (a :: r) : W (List Int))) >>= fun r => (pure (a :: r) : W (List Int))) >>= fun xs => W.need (xs.length ≤ sizeLine) >>= fun _ => (pure xs : W (List Int))) >>= fun xs => (pure (Bor.mk xs) : W (Bor Int))) >>= fun a => (pure Nl.mk : W Nl) >>= fun r => (pure (Cn.mk a r) : W (Cn (Bor Int) Nl))) >>= fun r => (pure (Cn.mk a r) : W (Cn Bag (Cn (Bor Int) Nl)))) >>= fun t : (Cn Bag (Cn (Bor Int) Nl)) => w_l_of t.a t.r.a)) fun v1_s =>
    (seqW (S1 := (List Int)) (setW (((pure a_days : W Int) >>= fun j => W.need (-(2 ^ 62) ≤ j ∧ j < 2 ^ 62) >>= fun _ => (pure (rngL 0 j.toNat) : W (List Int))) >>= fun xs => W.need (xs.length ≤ sizeLine) >>= fun _ => compW (fun _ => (pure true : W Bool)) (fun (v2_x : Int) => (((pure a_bag_here : W Bag) >>= fun a => (((pure v1_s : W Int) >>= fun a => (pure 1 : W Int) >>= fun b => (pure (a + b) : W Int)) >>= fun a => (pure Nl.mk : W Nl) >>= fun r => (pure (Cn.mk a r) : W (Cn Int Nl))) >>= fun r => (pure (Cn.mk a r) : W (Cn Bag (Cn Int Nl)))) >>= fun t : (Cn Bag (Cn Int Nl)) => w_take t.a t.r.a)) xs)) fun v3_s =>
    (seqW (S1 := Int) (setW (((pure v3_s : W (List Int)) >>= fun xs => (pure (Bor.mk xs) : W (Bor Int))) >>= fun a => W.need (a.l ≠ []) >>= fun _ => (pure (minL a.l) : W Int))) fun v4_s =>
    (seqW (S1 := (List Int)) (setW ((pure v3_s : W (List Int)) >>= fun xs => W.need (xs.length ≤ sizeLine) >>= fun _ => compW (fun _ => (pure true : W Bool)) (fun (v5_x : Int) => ((pure v5_x : W Int) >>= fun a => (pure v4_s : W Int) >>= fun b => (pure (a - b) : W Int))) xs)) fun v6_s =>
    (seqW (S1 := Unit) (ifW ((((pure a_bag_here : W Bag) >>= fun a => ((pure 3 : W Int) >>= fun a => (pure Nl.mk : W Nl) >>= fun r => (pure (Cn.mk a r) : W (Cn Int Nl))) >>= fun r => (pure (Cn.mk a r) : W (Cn Bag (Cn Int Nl)))) >>= fun t : (Cn Bag (Cn Int Nl)) => w_take t.a t.r.a) >>= fun a => (pure 0 : W Int) >>= fun b => (pure (decide (b < a)) : W Bool)) ((retW (pure v6_s : W (List Int)) : W (Res Unit (List Int) Empty)) : W (Res Unit (List Int) Empty)) (pure (.nx ()) : W (Res Unit (List Int) Empty))) fun v7_s =>
    (seqW (S1 := Int) (setW ((pure 1 : W Int) >>= fun a => (((pure a_bag_here : W Bag) >>= fun a => (((pure 10 : W Int) >>= fun a => (pure 6 : W Int) >>= fun b => (W.need (CPow a b) >>= fun _ => (pure (a ^ b.toNat) : W Int))) >>= fun a => (pure Nl.mk : W Nl) >>= fun r => (pure (Cn.mk a r) : W (Cn Int Nl))) >>= fun r => (pure (Cn.mk a r) : W (Cn Bag (Cn Int Nl)))) >>= fun t : (Cn Bag (Cn Int Nl)) => w_take t.a t.r.a) >>= fun b => (pure (a + b) : W Int))) fun v8_s =>
    (seqW (S1 := Int) (setW (((pure v8_s : W Int) >>= fun a => (pure 1 : W Int) >>= fun b => (pure (a + b) : W Int)) >>= fun a => (((pure a_bag_here : W Bag) >>= fun a => (((pure 10 : W Int) >>= fun a => (pure 6 : W Int) >>= fun b => (W.need (CPow a b) >>= fun _ => (pure (a ^ b.toNat) : W Int))) >>= fun a => (pure Nl.mk : W Nl) >>= fun r => (pure (Cn.mk a r) : W (Cn Int Nl))) >>= fun r => (pure (Cn.mk a r) : W (Cn Bag (Cn Int Nl)))) >>= fun t : (Cn Bag (Cn Int Nl)) => w_take t.a t.r.a) >>= fun b => (pure (a + b) : W Int))) fun v9_s =>
    (seqW (S1 := (List Int)) (setW (((pure 0 : W Int) >>= fun a => ((pure v8_s : W Int) >>= fun a => ((pure v9_s : W Int) >>= fun a => ((((pure a_bag_here : W Bag) >>= fun a => ((((((pure v9_s : W Int) >>= fun a => (pure 1 : W Int) >>= fun b => (pure (a + b) : W Int)) >>= fun a => (((pure 10 : W Int) >>= fun a => (pure 30 : W Int) >>= fun b => (W.need (CPow a b) >>= fun _ => (pure (a ^ b.toNat) : W Int))) >>= fun a => (pure [] : W (List Int)) >>= fun r => (pure (a :: r) : W (List Int))) >>= fun r => (pure (a :: r) : W (List Int))) >>= fun xs => W.need (xs.length ≤ sizeLine) >>= fun _ => (pure xs : W (List Int))) >>= fun xs => (pure (Bor.mk xs) : W (Bor Int))) >>= fun a => (pure Nl.mk : W Nl) >>= fun r => (pure (Cn.mk a r) : W (Cn (Bor Int) Nl))) >>= fun r => (pure (Cn.mk a r) : W (Cn Bag (Cn (Bor Int) Nl)))) >>= fun t : (Cn Bag (Cn (Bor Int) Nl)) => w_l_of t.a t.r.a) >>= fun a => (pure [] : W (List Int)) >>= fun r => (pure (a :: r) : W (List Int))) >>= fun r => (pure (a :: r) : W (List Int))) >>= fun r => (pure (a :: r) : W (List Int))) >>= fun r => (pure (a :: r) : W (List Int))) >>= fun xs => W.need (xs.length ≤ sizeLine) >>= fun _ => (pure xs : W (List Int)))) fun v10_s =>
    ((retW ((pure v6_s : W (List Int)) >>= fun xs => W.need (xs.length ≤ sizeLine) >>= fun _ => compW (fun _ => (pure true : W Bool)) (fun (v11_x : Int) => (((pure v10_s : W (List Int)) >>= fun xs => (pure (Bor.mk xs) : W (Bor Int))) >>= fun a => (pure v11_x : W Int) >>= fun b => W.get (atI a.l b))) xs) : W (Res Unit (List Int) Empty)) : W (Res Unit (List Int) Empty))))))))))
def w_l_toward (a_bag_here : Bag) (a_layers_here : (Bor Int)) : W (T3 Int Int Bool) := finR (S := Unit) (L := Empty) (seqW (S1 := Int) (setW ((pure 1 : W Int) >>= fun a => ((pure (Bor.mk a_layers_here.l) : W (Bor Int)) >>= fun a => (pure (a.l.length : Int) : W Int)) >>= fun b => (W.need (CPow a b) >>= fun _ => (pure (a * 2 ^ b.toNat) : W Int)))) fun v1_s =>
    (seqW (S1 := Int) (setW ((pure 1 : W Int) >>= fun a => (((pure a_bag_here : W Bag) >>= fun a => (((pure v1_s : W Int) >>= fun a => (pure 1 : W Int) >>= fun b => (pure (a - b) : W Int)) >>= fun a => (pure Nl.mk : W Nl) >>= fun r => (pure (Cn.mk a r) : W (Cn Int Nl))) >>= fun r => (pure (Cn.mk a r) : W (Cn Bag (Cn Int Nl)))) >>= fun t : (Cn Bag (Cn Int Nl)) => w_take t.a t.r.a) >>= fun b => (pure (a + b) : W Int))) fun v2_s =>
    (seqW (S1 := Int) (ifW ((((pure a_bag_here : W Bag) >>= fun a => ((pure 3 : W Int) >>= fun a => (pure Nl.mk : W Nl) >>= fun r => (pure (Cn.mk a r) : W (Cn Int Nl))) >>= fun r => (pure (Cn.mk a r) : W (Cn Bag (Cn Int Nl)))) >>= fun t : (Cn Bag (Cn Int Nl)) => w_take t.a t.r.a) >>= fun a => (pure 0 : W Int) >>= fun b => (pure (pyEq a b) : W Bool)) (seqW (S1 := Int) (setW (((pure a_bag_here : W Bag) >>= fun a => ((pure (Bor.mk a_layers_here.l) : W (Bor Int)) >>= fun a => (pure Nl.mk : W Nl) >>= fun r => (pure (Cn.mk a r) : W (Cn (Bor Int) Nl))) >>= fun r => (pure (Cn.mk a r) : W (Cn Bag (Cn (Bor Int) Nl)))) >>= fun t : (Cn Bag (Cn (Bor Int) Nl)) => w_l_of t.a t.r.a)) fun v3_s =>
    (seqW (S1 := Int) (setW (((((pure a_layers_here.l : W (List Int)) >>= fun xs => (pure (enumL xs) : W (List (T2 Int Int)))) >>= fun xs => W.need (xs.length ≤ sizeLine) >>= fun _ => compW (fun v4_x => ((pure v4_x.b : W Int) >>= fun a => (pure v3_s : W Int) >>= fun b => (pure (decide (b ≤ a)) : W Bool))) (fun (v4_x : (T2 Int Int)) => ((pure 1 : W Int) >>= fun a => (pure v4_x.a : W Int) >>= fun b => (W.need (CPow a b) >>= fun _ => (pure (a * 2 ^ b.toNat) : W Int)))) xs) >>= fun xs => (pure (Bor.mk xs) : W (Bor Int))) >>= fun a => (pure (a.l.sum) : W Int))) fun v5_s =>
    (pure (.nx (v5_s)) : W (Res Int (T3 Int Int Bool) Empty)))) (pure (.nx (v2_s)) : W (Res Int (T3 Int Int Bool) Empty))) fun v6_s =>
    (seqW (S1 := Int) (setW (((((pure a_layers_here.l : W (List Int)) >>= fun xs => (pure (enumL xs) : W (List (T2 Int Int)))) >>= fun xs => W.need (xs.length ≤ sizeLine) >>= fun _ => compW (fun v7_x => ((((pure v6_s : W Int) >>= fun a => (pure v7_x.a : W Int) >>= fun b => (W.need (0 ≤ b) >>= fun _ => (pure (a / 2 ^ b.toNat) : W Int))) >>= fun a => (pure 1 : W Int) >>= fun b => (pure (Builtin.bitAnd a b) : W Int)) >>= fun a => (pure 1 : W Int) >>= fun b => (pure (pyEq a b) : W Bool))) (fun (v7_x : (T2 Int Int)) => (pure v7_x.b : W Int)) xs) >>= fun xs => (pure (Bor.mk xs) : W (Bor Int))) >>= fun a => W.need (a.l ≠ []) >>= fun _ => (pure (minL a.l) : W Int))) fun v8_s =>
    (seqW (S1 := (List Int)) (setW (((pure a_layers_here.l : W (List Int)) >>= fun xs => (pure (enumL xs) : W (List (T2 Int Int)))) >>= fun xs => W.need (xs.length ≤ sizeLine) >>= fun _ => compW (fun v9_x => (((((pure v6_s : W Int) >>= fun a => (pure v9_x.a : W Int) >>= fun b => (W.need (0 ≤ b) >>= fun _ => (pure (a / 2 ^ b.toNat) : W Int))) >>= fun a => (pure 1 : W Int) >>= fun b => (pure (Builtin.bitAnd a b) : W Int)) >>= fun a => (pure 1 : W Int) >>= fun b => (pure (pyEq a b) : W Bool)) >>= fun b => if b = true then ((pure v9_x.b : W Int) >>= fun a => (pure v8_s : W Int) >>= fun b => (pure (pyEq a b) : W Bool)) else (pure false : W Bool))) (fun (v9_x : (T2 Int Int)) => (pure v9_x.a : W Int)) xs)) fun v10_s =>
    (seqW (S1 := Int) (setW ((((pure a_bag_here : W Bag) >>= fun a => ((pure v1_s : W Int) >>= fun a => (pure Nl.mk : W Nl) >>= fun r => (pure (Cn.mk a r) : W (Cn Int Nl))) >>= fun r => (pure (Cn.mk a r) : W (Cn Bag (Cn Int Nl)))) >>= fun t : (Cn Bag (Cn Int Nl)) => w_take t.a t.r.a) >>= fun a => (((pure a_bag_here : W Bag) >>= fun a => ((pure v1_s : W Int) >>= fun a => (pure Nl.mk : W Nl) >>= fun r => (pure (Cn.mk a r) : W (Cn Int Nl))) >>= fun r => (pure (Cn.mk a r) : W (Cn Bag (Cn Int Nl)))) >>= fun t : (Cn Bag (Cn Int Nl)) => w_take t.a t.r.a) >>= fun b => (pure (Builtin.bitAnd a b) : W Int))) fun v11_s =>
    (seqW (S1 := Unit) (ifW ((((pure a_bag_here : W Bag) >>= fun a => ((pure 3 : W Int) >>= fun a => (pure Nl.mk : W Nl) >>= fun r => (pure (Cn.mk a r) : W (Cn Int Nl))) >>= fun r => (pure (Cn.mk a r) : W (Cn Bag (Cn Int Nl)))) >>= fun t : (Cn Bag (Cn Int Nl)) => w_take t.a t.r.a) >>= fun a => (pure 0 : W Int) >>= fun b => (pure (decide (b < a)) : W Bool)) (seqW (S1 := Int) ((pure v10_s : W (List Int)) >>= fun xs => forW (fun (v12_x : Int) (v13_s : Int) => (seqW (S1 := Int) (setW ((pure v13_s : W Int) >>= fun a => ((pure 1 : W Int) >>= fun a => (pure v12_x : W Int) >>= fun b => (W.need (CPow a b) >>= fun _ => (pure (a * 2 ^ b.toNat) : W Int))) >>= fun b => (pure (Builtin.bitOr a b) : W Int))) fun v14_s =>
    (pure (.nx (v14_s)) : W (Res Int (T3 Int Int Bool) Int)))) xs (v11_s)) fun v15_s =>
    ((retW ((pure v6_s : W Int) >>= fun a => (pure v15_s : W Int) >>= fun b => (pure true : W Bool) >>= fun c => (pure (T3.mk a b c) : W (T3 Int Int Bool))) : W (Res Unit (T3 Int Int Bool) Empty)) : W (Res Unit (T3 Int Int Bool) Empty))) (pure (.nx ()) : W (Res Unit (T3 Int Int Bool) Empty))) fun v16_s =>
    (seqW (S1 := Int) (setW ((pure v11_s : W Int) >>= fun a => (((pure a_bag_here : W Bag) >>= fun a => ((pure v1_s : W Int) >>= fun a => (pure Nl.mk : W Nl) >>= fun r => (pure (Cn.mk a r) : W (Cn Int Nl))) >>= fun r => (pure (Cn.mk a r) : W (Cn Bag (Cn Int Nl)))) >>= fun t : (Cn Bag (Cn Int Nl)) => w_take t.a t.r.a) >>= fun b => (pure (Builtin.bitOr a b) : W Int))) fun v17_s =>
    ((retW ((pure v6_s : W Int) >>= fun a => ((pure v17_s : W Int) >>= fun a => (((pure 1 : W Int) >>= fun a => (((pure a_bag_here : W Bag) >>= fun a => (((pure v10_s : W (List Int)) >>= fun xs => (pure (Bor.mk xs) : W (Bor Int))) >>= fun a => (pure Nl.mk : W Nl) >>= fun r => (pure (Cn.mk a r) : W (Cn (Bor Int) Nl))) >>= fun r => (pure (Cn.mk a r) : W (Cn Bag (Cn (Bor Int) Nl)))) >>= fun t : (Cn Bag (Cn (Bor Int) Nl)) => w_l_of t.a t.r.a) >>= fun b => (W.need (CPow a b) >>= fun _ => (pure (a * 2 ^ b.toNat) : W Int))) >>= fun a => (pure (Builtin.bitNot a) : W Int)) >>= fun b => (pure (Builtin.bitAnd a b) : W Int)) >>= fun b => (pure false : W Bool) >>= fun c => (pure (T3.mk a b c) : W (T3 Int Int Bool))) : W (Res Unit (T3 Int Int Bool) Empty)) : W (Res Unit (T3 Int Int Bool) Empty))))))))))
def w_l_any (a_bag_here : Bag) (a_days : Int) : W (T3 Int Int Bool) := finR (S := Unit) (L := Empty) (seqW (S1 := Int) (setW ((pure 1 : W Int) >>= fun a => (pure a_days : W Int) >>= fun b => (W.need (CPow a b) >>= fun _ => (pure (a * 2 ^ b.toNat) : W Int)))) fun v1_s =>
    ((retW (((pure 1 : W Int) >>= fun a => (((pure a_bag_here : W Bag) >>= fun a => (((pure v1_s : W Int) >>= fun a => (pure 1 : W Int) >>= fun b => (pure (a - b) : W Int)) >>= fun a => (pure Nl.mk : W Nl) >>= fun r => (pure (Cn.mk a r) : W (Cn Int Nl))) >>= fun r => (pure (Cn.mk a r) : W (Cn Bag (Cn Int Nl)))) >>= fun t : (Cn Bag (Cn Int Nl)) => w_take t.a t.r.a) >>= fun b => (pure (a + b) : W Int)) >>= fun a => (((pure a_bag_here : W Bag) >>= fun a => ((pure v1_s : W Int) >>= fun a => (pure Nl.mk : W Nl) >>= fun r => (pure (Cn.mk a r) : W (Cn Int Nl))) >>= fun r => (pure (Cn.mk a r) : W (Cn Bag (Cn Int Nl)))) >>= fun t : (Cn Bag (Cn Int Nl)) => w_take t.a t.r.a) >>= fun b => ((((pure a_bag_here : W Bag) >>= fun a => ((pure 3 : W Int) >>= fun a => (pure Nl.mk : W Nl) >>= fun r => (pure (Cn.mk a r) : W (Cn Int Nl))) >>= fun r => (pure (Cn.mk a r) : W (Cn Bag (Cn Int Nl)))) >>= fun t : (Cn Bag (Cn Int Nl)) => w_take t.a t.r.a) >>= fun a => (pure 0 : W Int) >>= fun b => (pure (decide (b < a)) : W Bool)) >>= fun c => (pure (T3.mk a b c) : W (T3 Int Int Bool))) : W (Res Unit (T3 Int Int Bool) Empty)) : W (Res Unit (T3 Int Int Bool) Empty)))
def w_is_number (a_thing : Int) : W Bool := finR (S := Unit) (L := Empty) ((retW (((pure a_thing : W Int) >>= fun a => (pure true : W Bool)) >>= fun b => if b = true then (((pure a_thing : W Int) >>= fun a => (pure false : W Bool)) >>= fun b => (pure (!b) : W Bool)) else (pure false : W Bool)) : W (Res Unit Bool Empty)) : W (Res Unit Bool Empty))
def w_is_whole (a_thing : Int) (a_low : Int) (a_high : Int) : W Bool := finR (S := Unit) (L := Empty) ((retW ((((pure a_thing : W Int) >>= fun a => (pure Nl.mk : W Nl) >>= fun r => (pure (Cn.mk a r) : W (Cn Int Nl))) >>= fun t : (Cn Int Nl) => w_is_number t.a) >>= fun b => if b = true then ((pure a_low : W Int) >>= fun a => (pure a_thing : W Int) >>= fun b => (pure (decide (a ≤ b)) : W Bool) >>= fun z => if z = true then (pure a_high : W Int) >>= fun c => (pure (decide (b ≤ c)) : W Bool) else (pure false : W Bool)) else (pure false : W Bool)) : W (Res Unit Bool Empty)) : W (Res Unit Bool Empty))
def w_check_layers (a_layers : (Bor Int)) : W Unit := finN (S := Unit) (L := Empty) (seqW (S1 := Unit) (ifW ((((pure (Bor.mk a_layers.l) : W (Bor Int)) >>= fun a => (pure true : W Bool)) >>= fun b => (pure (!b) : W Bool)) >>= fun b => if b = true then (pure true : W Bool) else (((pure (Bor.mk a_layers.l) : W (Bor Int)) >>= fun a => (pure (a.l.length : Int) : W Int)) >>= fun a => (pure c_DAY_COUNTS : W (Tup Int)) >>= fun b => (pure (!inF a b.l) : W Bool))) (((pure "count" : W Str) >>= fun a => W.thr ⟨115, [("what", ToD.d a)]⟩ : W (Res Unit Unit Empty)) : W (Res Unit Unit Empty)) (pure (.nx ()) : W (Res Unit Unit Empty))) fun v1_s =>
    (seqW (S1 := Unit) ((pure a_layers.l : W (List Int)) >>= fun xs => forW (fun (v2_x : Int) (v3_s : Unit) => (seqW (S1 := Unit) (ifW ((((pure v2_x : W Int) >>= fun a => ((pure 0 : W Int) >>= fun a => ((pure 1000000000000000000000000000000 : W Int) >>= fun a => (pure Nl.mk : W Nl) >>= fun r => (pure (Cn.mk a r) : W (Cn Int Nl))) >>= fun r => (pure (Cn.mk a r) : W (Cn Int (Cn Int Nl)))) >>= fun r => (pure (Cn.mk a r) : W (Cn Int (Cn Int (Cn Int Nl))))) >>= fun t : (Cn Int (Cn Int (Cn Int Nl))) => w_is_whole t.a t.r.a t.r.r.a) >>= fun b => (pure (!b) : W Bool)) (((pure "number" : W Str) >>= fun a => W.thr ⟨115, [("what", ToD.d a)]⟩ : W (Res Unit Unit Unit)) : W (Res Unit Unit Unit)) (pure (.nx ()) : W (Res Unit Unit Unit))) fun v4_s =>
    (pure (.nx ()) : W (Res Unit Unit Unit)))) xs ()) fun v5_s =>
    (pure (.nx ()) : W (Res Unit Unit Empty))))
def wb_Order__init (a_layers : (Bor Int)) : W (Res Order Unit Empty) := (seqW (S1 := Unit) (dropW (((pure (Bor.mk a_layers.l) : W (Bor Int)) >>= fun a => (pure Nl.mk : W Nl) >>= fun r => (pure (Cn.mk a r) : W (Cn (Bor Int) Nl))) >>= fun t : (Cn (Bor Int) Nl) => w_check_layers t.a)) fun v1_s =>
    (seqW (S1 := Unit) (ifW ((pure 0 : W Int) >>= fun a => (pure (Bor.mk a_layers.l) : W (Bor Int)) >>= fun b => (pure (!inF a b.l) : W Bool)) (((pure "bottom" : W Str) >>= fun a => W.thr ⟨115, [("what", ToD.d a)]⟩ : W (Res Unit Unit Empty)) : W (Res Unit Unit Empty)) (pure (.nx ()) : W (Res Unit Unit Empty))) fun v2_s =>
    (seqW (S1 := (Tup Int)) (setW ((pure (Bor.mk a_layers.l) : W (Bor Int)) >>= fun a => (pure (Tup.mk a.l) : W (Tup Int)))) fun v3_s =>
    (pure (.nx ((Order.mk v3_s : Order))) : W (Res Order Unit Empty)))))
def w_Order__init (a_layers : (Bor Int)) : W Order := finI (wb_Order__init a_layers)
def w_is_day_set (a_thing : Int) : W Bool := finR (S := Unit) (L := Empty) ((retW (((pure a_thing : W Int) >>= fun a => ((pure 0 : W Int) >>= fun a => ((pure 65535 : W Int) >>= fun a => (pure Nl.mk : W Nl) >>= fun r => (pure (Cn.mk a r) : W (Cn Int Nl))) >>= fun r => (pure (Cn.mk a r) : W (Cn Int (Cn Int Nl)))) >>= fun r => (pure (Cn.mk a r) : W (Cn Int (Cn Int (Cn Int Nl))))) >>= fun t : (Cn Int (Cn Int (Cn Int Nl))) => w_is_whole t.a t.r.a t.r.r.a) : W (Res Unit Bool Empty)) : W (Res Unit Bool Empty))
def wb_Saying__init (a_where : Int) (a_then : Int) (a_usual : Bool) : W (Res Saying Unit Empty) := (seqW (S1 := Unit) (ifW (((((pure a_where : W Int) >>= fun a => (pure Nl.mk : W Nl) >>= fun r => (pure (Cn.mk a r) : W (Cn Int Nl))) >>= fun t : (Cn Int Nl) => w_is_day_set t.a) >>= fun b => (pure (!b) : W Bool)) >>= fun b => if b = true then (pure true : W Bool) else ((pure a_where : W Int) >>= fun a => (pure 0 : W Int) >>= fun b => (pure (pyEq a b) : W Bool))) (((pure "where" : W Str) >>= fun a => W.thr ⟨107, [("what", ToD.d a)]⟩ : W (Res Unit Unit Empty)) : W (Res Unit Unit Empty)) (pure (.nx ()) : W (Res Unit Unit Empty))) fun v1_s =>
    (seqW (S1 := Unit) (ifW ((((pure a_then : W Int) >>= fun a => (pure Nl.mk : W Nl) >>= fun r => (pure (Cn.mk a r) : W (Cn Int Nl))) >>= fun t : (Cn Int Nl) => w_is_day_set t.a) >>= fun b => (pure (!b) : W Bool)) (((pure "then" : W Str) >>= fun a => W.thr ⟨107, [("what", ToD.d a)]⟩ : W (Res Unit Unit Empty)) : W (Res Unit Unit Empty)) (pure (.nx ()) : W (Res Unit Unit Empty))) fun v2_s =>
    (seqW (S1 := Unit) (ifW (((pure a_usual : W Bool) >>= fun a => (pure true : W Bool)) >>= fun b => (pure (!b) : W Bool)) (((pure "usual" : W Str) >>= fun a => W.thr ⟨107, [("what", ToD.d a)]⟩ : W (Res Unit Unit Empty)) : W (Res Unit Unit Empty)) (pure (.nx ()) : W (Res Unit Unit Empty))) fun v3_s =>
    (seqW (S1 := Int) (setW (pure a_where : W Int)) fun v4_s =>
    (seqW (S1 := Int) (setW (pure a_then : W Int)) fun v5_s =>
    (seqW (S1 := Bool) (setW (pure a_usual : W Bool)) fun v6_s =>
    (seqW (S1 := Int) (setW ((pure a_where : W Int) >>= fun a => (pure a_then : W Int) >>= fun b => (pure (Builtin.bitAnd a b) : W Int))) fun v7_s =>
    (seqW (S1 := Int) (setW ((pure a_where : W Int) >>= fun a => ((pure a_then : W Int) >>= fun a => (pure (Builtin.bitNot a) : W Int)) >>= fun b => (pure (Builtin.bitAnd a b) : W Int))) fun v8_s =>
    (seqW (S1 := Int) (setW (ifW (pure a_usual : W Bool) (pure v7_s : W Int) (pure v8_s : W Int))) fun v9_s =>
    (seqW (S1 := Int) (setW (ifW (pure a_usual : W Bool) (pure v8_s : W Int) (pure v7_s : W Int))) fun v10_s =>
    (seqW (S1 := Int) (setW (ifW (pure a_usual : W Bool) (pure 1 : W Int) (pure 0 : W Int))) fun v11_s =>
    (pure (.nx ((Saying.mk v4_s v5_s v6_s v7_s v8_s v9_s v10_s v11_s : Saying))) : W (Res Saying Unit Empty)))))))))))))
def w_Saying__init (a_where : Int) (a_then : Int) (a_usual : Bool) : W Saying := finI (wb_Saying__init a_where a_then a_usual)
def w_l_said (a_sayings : (Bor (T3 Int Int Bool))) : W (List Saying) := ((pure a_sayings.l : W (List (T3 Int Int Bool))) >>= fun xs => W.need (xs.length ≤ sizeLine) >>= fun _ => compW (fun _ => (pure true : W Bool)) (fun (v1_x : (T3 Int Int Bool)) => (((pure v1_x.a : W Int) >>= fun a => ((pure v1_x.b : W Int) >>= fun a => ((pure v1_x.c : W Bool) >>= fun a => (pure Nl.mk : W Nl) >>= fun r => (pure (Cn.mk a r) : W (Cn Bool Nl))) >>= fun r => (pure (Cn.mk a r) : W (Cn Int (Cn Bool Nl)))) >>= fun r => (pure (Cn.mk a r) : W (Cn Int (Cn Int (Cn Bool Nl))))) >>= fun t : (Cn Int (Cn Int (Cn Bool Nl))) => w_Saying__init t.a t.r.a t.r.r.a)) xs)
def w_l_sides (a_saying : (T3 Int Int Bool)) : W (T2 Int Int) := finR (S := Unit) (L := Empty) (seqW (S1 := (T3 Int Int Bool)) (setW (pure a_saying : W (T3 Int Int Bool))) fun v1_s =>
    (seqW (S1 := Unit) (ifW (pure v1_s.c : W Bool) ((retW (((pure v1_s.a : W Int) >>= fun a => (pure v1_s.b : W Int) >>= fun b => (pure (Builtin.bitAnd a b) : W Int)) >>= fun a => ((pure v1_s.a : W Int) >>= fun a => ((pure v1_s.b : W Int) >>= fun a => (pure (Builtin.bitNot a) : W Int)) >>= fun b => (pure (Builtin.bitAnd a b) : W Int)) >>= fun b => (pure (T2.mk a b) : W (T2 Int Int))) : W (Res Unit (T2 Int Int) Empty)) : W (Res Unit (T2 Int Int) Empty)) (pure (.nx ()) : W (Res Unit (T2 Int Int) Empty))) fun v2_s =>
    ((retW (((pure v1_s.a : W Int) >>= fun a => ((pure v1_s.b : W Int) >>= fun a => (pure (Builtin.bitNot a) : W Int)) >>= fun b => (pure (Builtin.bitAnd a b) : W Int)) >>= fun a => ((pure v1_s.a : W Int) >>= fun a => (pure v1_s.b : W Int) >>= fun b => (pure (Builtin.bitAnd a b) : W Int)) >>= fun b => (pure (T2.mk a b) : W (T2 Int Int))) : W (Res Unit (T2 Int Int) Empty)) : W (Res Unit (T2 Int Int) Empty))))
def w_l_keeps (a_layers_here : (Bor Int)) (a_saying : (T3 Int Int Bool)) : W Bool := finR (S := Unit) (L := Empty) (seqW (S1 := (T2 Int Int)) (setW (((pure a_saying : W (T3 Int Int Bool)) >>= fun a => (pure Nl.mk : W Nl) >>= fun r => (pure (Cn.mk a r) : W (Cn (T3 Int Int Bool) Nl))) >>= fun t : (Cn (T3 Int Int Bool) Nl) => w_l_sides t.a)) fun v1_s =>
    (seqW (S1 := (List Int)) (setW (((pure a_layers_here.l : W (List Int)) >>= fun xs => (pure (enumL xs) : W (List (T2 Int Int)))) >>= fun xs => W.need (xs.length ≤ sizeLine) >>= fun _ => compW (fun v2_x => ((((pure v1_s.a : W Int) >>= fun a => (pure v2_x.a : W Int) >>= fun b => (W.need (0 ≤ b) >>= fun _ => (pure (a / 2 ^ b.toNat) : W Int))) >>= fun a => (pure 1 : W Int) >>= fun b => (pure (Builtin.bitAnd a b) : W Int)) >>= fun a => (pure 1 : W Int) >>= fun b => (pure (pyEq a b) : W Bool))) (fun (v2_x : (T2 Int Int)) => (pure v2_x.b : W Int)) xs)) fun v3_s =>
    (seqW (S1 := (List Int)) (setW (((pure a_layers_here.l : W (List Int)) >>= fun xs => (pure (enumL xs) : W (List (T2 Int Int)))) >>= fun xs => W.need (xs.length ≤ sizeLine) >>= fun _ => compW (fun v4_x => ((((pure v1_s.b : W Int) >>= fun a => (pure v4_x.a : W Int) >>= fun b => (W.need (0 ≤ b) >>= fun _ => (pure (a / 2 ^ b.toNat) : W Int))) >>= fun a => (pure 1 : W Int) >>= fun b => (pure (Builtin.bitAnd a b) : W Int)) >>= fun a => (pure 1 : W Int) >>= fun b => (pure (pyEq a b) : W Bool))) (fun (v4_x : (T2 Int Int)) => (pure v4_x.b : W Int)) xs)) fun v5_s =>
    (seqW (S1 := Unit) (ifW (((pure v5_s : W (List Int)) >>= fun xs => (pure (Bor.mk xs) : W (Bor Int))) >>= fun a => (((pure [] : W (List Int)) >>= fun xs => W.need (xs.length ≤ sizeLine) >>= fun _ => (pure xs : W (List Int))) >>= fun xs => (pure (Bor.mk xs) : W (Bor Int))) >>= fun b => (W.need (shd a ∧ shd b) >>= fun _ => (pure (dtEq a b) : W Bool))) ((retW (pure true : W Bool) : W (Res Unit Bool Empty)) : W (Res Unit Bool Empty)) (pure (.nx ()) : W (Res Unit Bool Empty))) fun v6_s =>
    ((retW ((((pure v3_s : W (List Int)) >>= fun xs => (pure (Bor.mk xs) : W (Bor Int))) >>= fun a => (((pure [] : W (List Int)) >>= fun xs => W.need (xs.length ≤ sizeLine) >>= fun _ => (pure xs : W (List Int))) >>= fun xs => (pure (Bor.mk xs) : W (Bor Int))) >>= fun b => (W.need (shd a ∧ shd b) >>= fun _ => (pure (!dtEq a b) : W Bool))) >>= fun b => if b = true then ((((pure v5_s : W (List Int)) >>= fun xs => (pure (Bor.mk xs) : W (Bor Int))) >>= fun a => W.need (a.l ≠ []) >>= fun _ => (pure (minL a.l) : W Int)) >>= fun a => ((((pure v3_s : W (List Int)) >>= fun xs => (pure (Bor.mk xs) : W (Bor Int))) >>= fun a => W.need (a.l ≠ []) >>= fun _ => (pure (minL a.l) : W Int)) >>= fun a => (ifW ((pure a_saying : W (T3 Int Int Bool)) >>= fun t => (pure t.c : W Bool)) (pure 1 : W Int) (pure 0 : W Int)) >>= fun b => (pure (a + b) : W Int)) >>= fun b => (pure (decide (b ≤ a)) : W Bool)) else (pure false : W Bool)) : W (Res Unit Bool Empty)) : W (Res Unit Bool Empty))))))
def w_l_first (a_layers_here : (Bor Int)) (a_sayings : (Bor (T3 Int Int Bool))) : W (Option Int) := finR (S := Unit) (L := Empty) (seqW (S1 := Unit) (((pure a_sayings.l : W (List (T3 Int Int Bool))) >>= fun xs => (pure (enumL xs) : W (List (T2 Int (T3 Int Int Bool))))) >>= fun xs => forW (fun (v1_x : (T2 Int (T3 Int Int Bool))) (v2_s : Unit) => (seqW (S1 := Unit) (ifW ((((pure (Bor.mk a_layers_here.l) : W (Bor Int)) >>= fun a => ((pure v1_x.b : W (T3 Int Int Bool)) >>= fun a => (pure Nl.mk : W Nl) >>= fun r => (pure (Cn.mk a r) : W (Cn (T3 Int Int Bool) Nl))) >>= fun r => (pure (Cn.mk a r) : W (Cn (Bor Int) (Cn (T3 Int Int Bool) Nl)))) >>= fun t : (Cn (Bor Int) (Cn (T3 Int Int Bool) Nl)) => w_l_keeps t.a t.r.a) >>= fun b => (pure (!b) : W Bool)) ((retW ((pure v1_x.a : W Int) >>= fun a => (pure (some a) : W (Option Int))) : W (Res Unit (Option Int) Unit)) : W (Res Unit (Option Int) Unit)) (pure (.nx ()) : W (Res Unit (Option Int) Unit))) fun v3_s =>
    (pure (.nx ()) : W (Res Unit (Option Int) Unit)))) xs ()) fun v4_s =>
    ((retW ((pure () : W Unit) >>= fun _ => (pure none : W (Option Int))) : W (Res Unit (Option Int) Empty)) : W (Res Unit (Option Int) Empty)))
def w_name_fault (a_name : Str) : W (Option Str) := finR (S := Unit) (L := Empty) (seqW (S1 := Unit) (ifW ((((pure a_name : W Str) >>= fun a => (pure true : W Bool)) >>= fun b => (pure (!b) : W Bool)) >>= fun b => if b = true then (pure true : W Bool) else (((pure 1 : W Int) >>= fun a => ((pure a_name : W Str) >>= fun a => W.need (a.length ≤ sizeLine) >>= fun _ => (pure (a.length : Int) : W Int)) >>= fun b => (pure (decide (a ≤ b)) : W Bool) >>= fun z => if z = true then (pure 8 : W Int) >>= fun c => (pure (decide (b ≤ c)) : W Bool) else (pure false : W Bool)) >>= fun b => (pure (!b) : W Bool))) ((retW ((pure "name" : W Str) >>= fun a => (pure (some a) : W (Option Str))) : W (Res Unit (Option Str) Empty)) : W (Res Unit (Option Str) Empty)) (pure (.nx ()) : W (Res Unit (Option Str) Empty))) fun v1_s =>
    (seqW (S1 := Unit) (ifW ((((((pure a_name : W Str) >>= fun s => (pure (chrs s) : W (List Str))) >>= fun xs => W.need (xs.length ≤ sizeLine) >>= fun _ => compW (fun _ => (pure true : W Bool)) (fun (v2_x : Str) => ((pure "a" : W Str) >>= fun a => (pure v2_x : W Str) >>= fun b => (pure (!decide (b.cps.toList < a.cps.toList)) : W Bool) >>= fun z => if z = true then (pure "z" : W Str) >>= fun c => (pure (!decide (c.cps.toList < b.cps.toList)) : W Bool) else (pure false : W Bool))) xs) >>= fun xs => (pure (Bor.mk xs) : W (Bor Bool))) >>= fun a => (pure (a.l.all id) : W Bool)) >>= fun b => (pure (!b) : W Bool)) ((retW ((pure "name" : W Str) >>= fun a => (pure (some a) : W (Option Str))) : W (Res Unit (Option Str) Empty)) : W (Res Unit (Option Str) Empty)) (pure (.nx ()) : W (Res Unit (Option Str) Empty))) fun v3_s =>
    (seqW (S1 := Unit) (ifW ((pure a_name : W Str) >>= fun a => (pure c_KEPT_WORDS : W (Tup Str)) >>= fun b => (pure (inF a b.l) : W Bool)) ((retW ((pure "kept" : W Str) >>= fun a => (pure (some a) : W (Option Str))) : W (Res Unit (Option Str) Empty)) : W (Res Unit (Option Str) Empty)) (pure (.nx ()) : W (Res Unit (Option Str) Empty))) fun v4_s =>
    ((retW ((pure () : W Unit) >>= fun _ => (pure none : W (Option Str))) : W (Res Unit (Option Str) Empty)) : W (Res Unit (Option Str) Empty)))))
def w_check_names (a_names : (Bor Str)) : W Unit := finN (S := Unit) (L := Empty) (seqW (S1 := Unit) (ifW ((((pure (Bor.mk a_names.l) : W (Bor Str)) >>= fun a => (pure true : W Bool)) >>= fun b => (pure (!b) : W Bool)) >>= fun b => if b = true then (pure true : W Bool) else (((pure 1 : W Int) >>= fun a => ((pure (Bor.mk a_names.l) : W (Bor Str)) >>= fun a => (pure (a.l.length : Int) : W Int)) >>= fun b => (pure (decide (a ≤ b)) : W Bool) >>= fun z => if z = true then (pure 4 : W Int) >>= fun c => (pure (decide (b ≤ c)) : W Bool) else (pure false : W Bool)) >>= fun b => (pure (!b) : W Bool))) (((pure "count" : W Str) >>= fun a => (pure () : W Unit) >>= fun b => W.thr ⟨102, [("index", ToD.d b), ("what", ToD.d a)]⟩ : W (Res Unit Unit Empty)) : W (Res Unit Unit Empty)) (pure (.nx ()) : W (Res Unit Unit Empty))) fun v1_s =>
    (seqW (S1 := Unit) (((pure a_names.l : W (List Str)) >>= fun xs => (pure (enumL xs) : W (List (T2 Int Str)))) >>= fun xs => forW (fun (v2_x : (T2 Int Str)) (v3_s : Unit) => (seqW (S1 := (Option Str)) (setW (((pure v2_x.b : W Str) >>= fun a => (pure Nl.mk : W Nl) >>= fun r => (pure (Cn.mk a r) : W (Cn Str Nl))) >>= fun t : (Cn Str Nl) => w_name_fault t.a)) fun v4_s =>
    (seqW (S1 := Unit) (ifW ((pure v4_s : W (Option Str)) >>= fun a => (pure a.isSome : W Bool)) (((pure v4_s : W (Option Str)) >>= fun a => (pure v2_x.a : W Int) >>= fun b => W.thr ⟨102, [("index", ToD.d b), ("what", ToD.d a)]⟩ : W (Res Unit Unit Unit)) : W (Res Unit Unit Unit)) (pure (.nx ()) : W (Res Unit Unit Unit))) fun v5_s =>
    (seqW (S1 := Unit) (ifW ((pure v2_x.b : W Str) >>= fun a => (((pure (Bor.mk a_names.l) : W (Bor Str)) >>= fun a => (pure none : W (Option Int)) >>= fun l => ((pure v2_x.a : W Int) >>= fun i => (pure (some i) : W (Option Int))) >>= fun u => (pure (cutL a.l l u) : W (List Str))) >>= fun xs => (pure (Bor.mk xs) : W (Bor Str))) >>= fun b => (pure (inF a b.l) : W Bool)) (((pure "twice" : W Str) >>= fun a => (pure v2_x.a : W Int) >>= fun b => W.thr ⟨102, [("index", ToD.d b), ("what", ToD.d a)]⟩ : W (Res Unit Unit Unit)) : W (Res Unit Unit Unit)) (pure (.nx ()) : W (Res Unit Unit Unit))) fun v6_s =>
    (pure (.nx ()) : W (Res Unit Unit Unit)))))) xs ()) fun v7_s =>
    (pure (.nx ()) : W (Res Unit Unit Empty))))
def wb_Marks__init (a_names : (Bor Str)) : W (Res Marks Unit Empty) := (seqW (S1 := Unit) (dropW (((pure (Bor.mk a_names.l) : W (Bor Str)) >>= fun a => (pure Nl.mk : W Nl) >>= fun r => (pure (Cn.mk a r) : W (Cn (Bor Str) Nl))) >>= fun t : (Cn (Bor Str) Nl) => w_check_names t.a)) fun v1_s =>
    (seqW (S1 := (Tup Str)) (setW ((pure (Bor.mk a_names.l) : W (Bor Str)) >>= fun a => (pure (Tup.mk a.l) : W (Tup Str)))) fun v2_s =>
    (seqW (S1 := Int) (setW ((pure (Bor.mk a_names.l) : W (Bor Str)) >>= fun a => (pure (a.l.length : Int) : W Int))) fun v3_s =>
    (seqW (S1 := Int) (setW ((pure 1 : W Int) >>= fun a => (pure v3_s : W Int) >>= fun b => (W.need (CPow a b) >>= fun _ => (pure (a * 2 ^ b.toNat) : W Int)))) fun v4_s =>
    (seqW (S1 := Int) (setW (((pure 1 : W Int) >>= fun a => (pure v4_s : W Int) >>= fun b => (W.need (CPow a b) >>= fun _ => (pure (a * 2 ^ b.toNat) : W Int))) >>= fun a => (pure 1 : W Int) >>= fun b => (pure (a - b) : W Int))) fun v5_s =>
    (pure (.nx ((Marks.mk v2_s v3_s v4_s v5_s : Marks))) : W (Res Marks Unit Empty)))))))
def w_Marks__init (a_names : (Bor Str)) : W Marks := finI (wb_Marks__init a_names)
def w_l_marks (a_days : Int) : W Marks := finR (S := Unit) (L := Empty) ((retW ((((((((pure "a" : W Str) >>= fun a => ((pure "b" : W Str) >>= fun a => ((pure "c" : W Str) >>= fun a => ((pure "d" : W Str) >>= fun a => (pure [] : W (List Str)) >>= fun r => (pure (a :: r) : W (List Str))) >>= fun r => (pure (a :: r) : W (List Str))) >>= fun r => (pure (a :: r) : W (List Str))) >>= fun r => (pure (a :: r) : W (List Str))) >>= fun xs => W.need (xs.length ≤ sizeLine) >>= fun _ => (pure xs : W (List Str))) >>= fun xs => (pure (Bor.mk xs) : W (Bor Str))) >>= fun a => (pure none : W (Option Int)) >>= fun l => (((((pure 2 : W Int) >>= fun a => ((pure 4 : W Int) >>= fun a => ((pure 8 : W Int) >>= fun a => ((pure 16 : W Int) >>= fun a => (pure [] : W (List Int)) >>= fun r => (pure (a :: r) : W (List Int))) >>= fun r => (pure (a :: r) : W (List Int))) >>= fun r => (pure (a :: r) : W (List Int))) >>= fun r => (pure (a :: r) : W (List Int))) >>= fun xs => W.need (xs.length ≤ sizeLine) >>= fun _ => (pure a_days : W Int) >>= fun x => W.need (x ∈ xs) >>= fun _ => (pure (xs.idxOf x : Int) : W Int)) >>= fun a => (pure 1 : W Int) >>= fun b => (pure (a + b) : W Int)) >>= fun i => (pure (some i) : W (Option Int))) >>= fun u => (pure (cutL a.l l u) : W (List Str))) >>= fun xs => (pure (Bor.mk xs) : W (Bor Str))) >>= fun a => (pure Nl.mk : W Nl) >>= fun r => (pure (Cn.mk a r) : W (Cn (Bor Str) Nl))) >>= fun t : (Cn (Bor Str) Nl) => w_Marks__init t.a) : W (Res Unit Marks Empty)) : W (Res Unit Marks Empty))
def w_within (a_one : Int) (a_other : Int) : W Bool := finR (S := Unit) (L := Empty) ((retW (((pure a_one : W Int) >>= fun a => ((pure a_other : W Int) >>= fun a => (pure (Builtin.bitNot a) : W Int)) >>= fun b => (pure (Builtin.bitAnd a b) : W Int)) >>= fun a => (pure 0 : W Int) >>= fun b => (pure (pyEq a b) : W Bool)) : W (Res Unit Bool Empty)) : W (Res Unit Bool Empty))
def w_has_days (a_marks : Marks) (a_saying : Saying) : W Bool := finR (S := Unit) (L := Empty) ((retW (((((pure a_saying : W Saying) >>= fun o => (pure o.«where» : W Int)) >>= fun a => ((pure a_saying : W Saying) >>= fun o => (pure o.«then» : W Int)) >>= fun b => (pure (Builtin.bitOr a b) : W Int)) >>= fun a => (((pure a_marks : W Marks) >>= fun o => (pure o.all_days : W Int)) >>= fun a => (pure Nl.mk : W Nl) >>= fun r => (pure (Cn.mk a r) : W (Cn Int Nl))) >>= fun r => (pure (Cn.mk a r) : W (Cn Int (Cn Int Nl)))) >>= fun t : (Cn Int (Cn Int Nl)) => w_within t.a t.r.a) : W (Res Unit Bool Empty)) : W (Res Unit Bool Empty))
def w_check_book (a_marks : Marks) (a_sayings : (Bor Saying)) : W Unit := finN (S := Unit) (L := Empty) (seqW (S1 := Unit) (ifW (((pure a_marks : W Marks) >>= fun a => (pure true : W Bool)) >>= fun b => (pure (!b) : W Bool)) (((pure "marks" : W Str) >>= fun a => (pure () : W Unit) >>= fun b => W.thr ⟨109, [("number", ToD.d b), ("what", ToD.d a)]⟩ : W (Res Unit Unit Empty)) : W (Res Unit Unit Empty)) (pure (.nx ()) : W (Res Unit Unit Empty))) fun v1_s =>
    (seqW (S1 := Unit) (ifW ((((pure (Bor.mk a_sayings.l) : W (Bor Saying)) >>= fun a => (pure true : W Bool)) >>= fun b => (pure (!b) : W Bool)) >>= fun b => if b = true then (pure true : W Bool) else (((pure (Bor.mk a_sayings.l) : W (Bor Saying)) >>= fun a => (pure (a.l.length : Int) : W Int)) >>= fun a => (pure 12 : W Int) >>= fun b => (pure (decide (b < a)) : W Bool))) (((pure "count" : W Str) >>= fun a => (pure () : W Unit) >>= fun b => W.thr ⟨109, [("number", ToD.d b), ("what", ToD.d a)]⟩ : W (Res Unit Unit Empty)) : W (Res Unit Unit Empty)) (pure (.nx ()) : W (Res Unit Unit Empty))) fun v2_s =>
    (seqW (S1 := Unit) (((pure a_sayings.l : W (List Saying)) >>= fun xs => (pure (enumL xs) : W (List (T2 Int Saying)))) >>= fun xs => forW (fun (v3_x : (T2 Int Saying)) (v4_s : Unit) => (seqW (S1 := Unit) (ifW (((pure v3_x.b : W Saying) >>= fun a => (pure true : W Bool)) >>= fun b => (pure (!b) : W Bool)) (((pure "saying" : W Str) >>= fun a => (pure v3_x.a : W Int) >>= fun b => W.thr ⟨109, [("number", ToD.d b), ("what", ToD.d a)]⟩ : W (Res Unit Unit Unit)) : W (Res Unit Unit Unit)) (pure (.nx ()) : W (Res Unit Unit Unit))) fun v5_s =>
    (seqW (S1 := Unit) (ifW ((((pure a_marks : W Marks) >>= fun a => ((pure v3_x.b : W Saying) >>= fun a => (pure Nl.mk : W Nl) >>= fun r => (pure (Cn.mk a r) : W (Cn Saying Nl))) >>= fun r => (pure (Cn.mk a r) : W (Cn Marks (Cn Saying Nl)))) >>= fun t : (Cn Marks (Cn Saying Nl)) => w_has_days t.a t.r.a) >>= fun b => (pure (!b) : W Bool)) (((pure "days" : W Str) >>= fun a => (pure v3_x.a : W Int) >>= fun b => W.thr ⟨109, [("number", ToD.d b), ("what", ToD.d a)]⟩ : W (Res Unit Unit Unit)) : W (Res Unit Unit Unit)) (pure (.nx ()) : W (Res Unit Unit Unit))) fun v6_s =>
    (pure (.nx ()) : W (Res Unit Unit Unit))))) xs ()) fun v7_s =>
    (pure (.nx ()) : W (Res Unit Unit Empty)))))
def wb_Book__init (a_marks : Marks) (a_sayings : (Bor Saying)) : W (Res Book Unit Empty) := (seqW (S1 := Unit) (dropW (((pure a_marks : W Marks) >>= fun a => ((pure (Bor.mk a_sayings.l) : W (Bor Saying)) >>= fun a => (pure Nl.mk : W Nl) >>= fun r => (pure (Cn.mk a r) : W (Cn (Bor Saying) Nl))) >>= fun r => (pure (Cn.mk a r) : W (Cn Marks (Cn (Bor Saying) Nl)))) >>= fun t : (Cn Marks (Cn (Bor Saying) Nl)) => w_check_book t.a t.r.a)) fun v1_s =>
    (seqW (S1 := Marks) (setW (pure a_marks : W Marks)) fun v2_s =>
    (seqW (S1 := (Tup Saying)) (setW ((pure (Bor.mk a_sayings.l) : W (Bor Saying)) >>= fun a => (pure (Tup.mk a.l) : W (Tup Saying)))) fun v3_s =>
    (pure (.nx ((Book.mk v2_s v3_s : Book))) : W (Res Book Unit Empty)))))
def w_Book__init (a_marks : Marks) (a_sayings : (Bor Saying)) : W Book := finI (wb_Book__init a_marks a_sayings)
def w_Order_check_days (a_self : Order) (a_days : Int) : W Unit := finN (S := Unit) (L := Empty) (seqW (S1 := Unit) (ifW ((((pure a_days : W Int) >>= fun a => ((pure 0 : W Int) >>= fun a => ((((pure 1 : W Int) >>= fun a => (((pure a_self : W Order) >>= fun o => (pure o.layers : W (Tup Int))) >>= fun a => (pure (a.l.length : Int) : W Int)) >>= fun b => (W.need (CPow a b) >>= fun _ => (pure (a * 2 ^ b.toNat) : W Int))) >>= fun a => (pure 1 : W Int) >>= fun b => (pure (a - b) : W Int)) >>= fun a => (pure Nl.mk : W Nl) >>= fun r => (pure (Cn.mk a r) : W (Cn Int Nl))) >>= fun r => (pure (Cn.mk a r) : W (Cn Int (Cn Int Nl)))) >>= fun r => (pure (Cn.mk a r) : W (Cn Int (Cn Int (Cn Int Nl))))) >>= fun t : (Cn Int (Cn Int (Cn Int Nl))) => w_is_whole t.a t.r.a t.r.r.a) >>= fun b => (pure (!b) : W Bool)) ((W.thr ⟨112, []⟩ : W (Res Unit Unit Empty)) : W (Res Unit Unit Empty)) (pure (.nx ()) : W (Res Unit Unit Empty))) fun v1_s =>
    (pure (.nx ()) : W (Res Unit Unit Empty)))
def w_days_in (a_day_set : Int) : W (Tup Int) := finR (S := Unit) (L := Empty) ((retW ((((((pure a_day_set : W Int) >>= fun a => (pure ((Builtin.Int.intBits a : Nat) : Int) : W Int)) >>= fun j => W.need (-(2 ^ 62) ≤ j ∧ j < 2 ^ 62) >>= fun _ => (pure (rngL 0 j.toNat) : W (List Int))) >>= fun xs => W.need (xs.length ≤ sizeLine) >>= fun _ => compW (fun v1_x => ((((pure a_day_set : W Int) >>= fun a => (pure v1_x : W Int) >>= fun b => (W.need (0 ≤ b) >>= fun _ => (pure (a / 2 ^ b.toNat) : W Int))) >>= fun a => (pure 1 : W Int) >>= fun b => (pure (Builtin.bitAnd a b) : W Int)) >>= fun a => (pure (Tr.tr a) : W Bool))) (fun (v1_x : Int) => (pure v1_x : W Int)) xs) >>= fun xs => (pure (Bor.mk xs) : W (Bor Int))) >>= fun a => (pure (Tup.mk a.l) : W (Tup Int))) : W (Res Unit (Tup Int) Empty)) : W (Res Unit (Tup Int) Empty))
def w_Order_least (a_self : Order) (a_days : Int) : W (Option Int) := finR (S := Unit) (L := Empty) (seqW (S1 := Unit) (dropW ((pure a_self : W Order) >>= fun o => ((pure a_days : W Int) >>= fun a => (pure Nl.mk : W Nl) >>= fun r => (pure (Cn.mk a r) : W (Cn Int Nl))) >>= fun t : (Cn Int Nl) => w_Order_check_days o t.a)) fun v1_s =>
    ((retW ((((((((pure a_days : W Int) >>= fun a => (pure Nl.mk : W Nl) >>= fun r => (pure (Cn.mk a r) : W (Cn Int Nl))) >>= fun t : (Cn Int Nl) => w_days_in t.a) >>= fun t => (pure t.l : W (List Int))) >>= fun xs => W.need (xs.length ≤ sizeLine) >>= fun _ => compW (fun _ => (pure true : W Bool)) (fun (v2_x : Int) => (((pure a_self : W Order) >>= fun o => (pure o.layers : W (Tup Int))) >>= fun a => (pure v2_x : W Int) >>= fun b => W.get (atI a.l b))) xs) >>= fun xs => (pure (Bor.mk xs) : W (Bor Int))) >>= fun a => (pure Nl.mk : W Nl) >>= fun r => (pure (Cn.mk a r) : W (Cn (Bor Int) Nl))) >>= fun t => ((pure () : W Unit) >>= fun a => (pure Nl.mk : W Nl) >>= fun r => (pure (Cn.mk a r) : W (Cn Unit Nl))) >>= fun _ => (pure (minO t.a.l) : W (Option Int))) : W (Res Unit (Option Int) Empty)) : W (Res Unit (Option Int) Empty)))
def w_Order_keeps (a_self : Order) (a_saying : Saying) : W Bool := finR (S := Unit) (L := Empty) (seqW (S1 := Unit) (dropW ((pure a_self : W Order) >>= fun o => ((((pure a_saying : W Saying) >>= fun o => (pure o.«where» : W Int)) >>= fun a => ((pure a_saying : W Saying) >>= fun o => (pure o.«then» : W Int)) >>= fun b => (pure (Builtin.bitOr a b) : W Int)) >>= fun a => (pure Nl.mk : W Nl) >>= fun r => (pure (Cn.mk a r) : W (Cn Int Nl))) >>= fun t : (Cn Int Nl) => w_Order_check_days o t.a)) fun v1_s =>
    (seqW (S1 := (Option Int)) (setW ((pure a_self : W Order) >>= fun o => (((pure a_saying : W Saying) >>= fun o => (pure o.low : W Int)) >>= fun a => (pure Nl.mk : W Nl) >>= fun r => (pure (Cn.mk a r) : W (Cn Int Nl))) >>= fun t : (Cn Int Nl) => w_Order_least o t.a)) fun v2_s =>
    (seqW (S1 := (Option Int)) (setW ((pure a_self : W Order) >>= fun o => (((pure a_saying : W Saying) >>= fun o => (pure o.high : W Int)) >>= fun a => (pure Nl.mk : W Nl) >>= fun r => (pure (Cn.mk a r) : W (Cn Int Nl))) >>= fun t : (Cn Int Nl) => w_Order_least o t.a)) fun v3_s =>
    (seqW (S1 := Unit) (ifW ((pure v3_s : W (Option Int)) >>= fun a => (pure a.isNone : W Bool)) ((retW (pure true : W Bool) : W (Res Unit Bool Empty)) : W (Res Unit Bool Empty)) (pure (.nx ()) : W (Res Unit Bool Empty))) fun v4_s =>
    (seqW (S1 := Unit) (ifW ((pure v2_s : W (Option Int)) >>= fun a => (pure a.isNone : W Bool)) ((retW (pure false : W Bool) : W (Res Unit Bool Empty)) : W (Res Unit Bool Empty)) (pure (.nx ()) : W (Res Unit Bool Empty))) fun v5_s =>
    ((retW (((pure v3_s : W (Option Int)) >>= fun o => W.get o) >>= fun a => (((pure v2_s : W (Option Int)) >>= fun o => W.get o) >>= fun a => ((pure a_saying : W Saying) >>= fun o => (pure o.step : W Int)) >>= fun b => (pure (a + b) : W Int)) >>= fun b => (pure (decide (b ≤ a)) : W Bool)) : W (Res Unit Bool Empty)) : W (Res Unit Bool Empty)))))))
def w_Order_first_not_kept (a_self : Order) (a_sayings : (Bor Saying)) : W (Option Int) := finR (S := Unit) (L := Empty) (seqW (S1 := Unit) ((pure a_sayings.l : W (List Saying)) >>= fun xs => forW (fun (v1_x : Saying) (v2_s : Unit) => (seqW (S1 := Unit) (dropW ((pure a_self : W Order) >>= fun o => ((((pure v1_x : W Saying) >>= fun o => (pure o.«where» : W Int)) >>= fun a => ((pure v1_x : W Saying) >>= fun o => (pure o.«then» : W Int)) >>= fun b => (pure (Builtin.bitOr a b) : W Int)) >>= fun a => (pure Nl.mk : W Nl) >>= fun r => (pure (Cn.mk a r) : W (Cn Int Nl))) >>= fun t : (Cn Int Nl) => w_Order_check_days o t.a)) fun v3_s =>
    (pure (.nx ()) : W (Res Unit (Option Int) Unit)))) xs ()) fun v4_s =>
    (seqW (S1 := Unit) (((pure a_sayings.l : W (List Saying)) >>= fun xs => (pure (enumL xs) : W (List (T2 Int Saying)))) >>= fun xs => forW (fun (v5_x : (T2 Int Saying)) (v6_s : Unit) => (seqW (S1 := Unit) (ifW (((pure a_self : W Order) >>= fun o => ((pure v5_x.b : W Saying) >>= fun a => (pure Nl.mk : W Nl) >>= fun r => (pure (Cn.mk a r) : W (Cn Saying Nl))) >>= fun t : (Cn Saying Nl) => w_Order_keeps o t.a) >>= fun b => (pure (!b) : W Bool)) ((retW ((pure v5_x.a : W Int) >>= fun a => (pure (some a) : W (Option Int))) : W (Res Unit (Option Int) Unit)) : W (Res Unit (Option Int) Unit)) (pure (.nx ()) : W (Res Unit (Option Int) Unit))) fun v7_s =>
    (pure (.nx ()) : W (Res Unit (Option Int) Unit)))) xs ()) fun v8_s =>
    ((retW ((pure () : W Unit) >>= fun _ => (pure none : W (Option Int))) : W (Res Unit (Option Int) Empty)) : W (Res Unit (Option Int) Empty))))
def w_Order__call (a_self : Order) (a_sayings : (Bor Saying)) : W (Option Int) := finR (S := Unit) (L := Empty) ((retW ((pure a_self : W Order) >>= fun o => ((pure (Bor.mk a_sayings.l) : W (Bor Saying)) >>= fun a => (pure Nl.mk : W Nl) >>= fun r => (pure (Cn.mk a r) : W (Cn (Bor Saying) Nl))) >>= fun t : (Cn (Bor Saying) Nl) => w_Order_first_not_kept o t.a) : W (Res Unit (Option Int) Empty)) : W (Res Unit (Option Int) Empty))
def w_Order_first_not_kept_OrderTSaying (a_self : Order) (a_sayings : (Tup Saying)) : W (Option Int) := finR (S := Unit) (L := Empty) (seqW (S1 := Unit) (((pure a_sayings : W (Tup Saying)) >>= fun t => (pure t.l : W (List Saying))) >>= fun xs => forW (fun (v1_x : Saying) (v2_s : Unit) => (seqW (S1 := Unit) (dropW ((pure a_self : W Order) >>= fun o => ((((pure v1_x : W Saying) >>= fun o => (pure o.«where» : W Int)) >>= fun a => ((pure v1_x : W Saying) >>= fun o => (pure o.«then» : W Int)) >>= fun b => (pure (Builtin.bitOr a b) : W Int)) >>= fun a => (pure Nl.mk : W Nl) >>= fun r => (pure (Cn.mk a r) : W (Cn Int Nl))) >>= fun t : (Cn Int Nl) => w_Order_check_days o t.a)) fun v3_s =>
    (pure (.nx ()) : W (Res Unit (Option Int) Unit)))) xs ()) fun v4_s =>
    (seqW (S1 := Unit) ((((pure a_sayings : W (Tup Saying)) >>= fun t => (pure t.l : W (List Saying))) >>= fun xs => (pure (enumL xs) : W (List (T2 Int Saying)))) >>= fun xs => forW (fun (v5_x : (T2 Int Saying)) (v6_s : Unit) => (seqW (S1 := Unit) (ifW (((pure a_self : W Order) >>= fun o => ((pure v5_x.b : W Saying) >>= fun a => (pure Nl.mk : W Nl) >>= fun r => (pure (Cn.mk a r) : W (Cn Saying Nl))) >>= fun t : (Cn Saying Nl) => w_Order_keeps o t.a) >>= fun b => (pure (!b) : W Bool)) ((retW ((pure v5_x.a : W Int) >>= fun a => (pure (some a) : W (Option Int))) : W (Res Unit (Option Int) Unit)) : W (Res Unit (Option Int) Unit)) (pure (.nx ()) : W (Res Unit (Option Int) Unit))) fun v7_s =>
    (pure (.nx ()) : W (Res Unit (Option Int) Unit)))) xs ()) fun v8_s =>
    ((retW ((pure () : W Unit) >>= fun _ => (pure none : W (Option Int))) : W (Res Unit (Option Int) Empty)) : W (Res Unit (Option Int) Empty))))
def w_Order__call_OrderTSaying (a_self : Order) (a_sayings : (Tup Saying)) : W (Option Int) := finR (S := Unit) (L := Empty) ((retW ((pure a_self : W Order) >>= fun o => ((pure a_sayings : W (Tup Saying)) >>= fun a => (pure Nl.mk : W Nl) >>= fun r => (pure (Cn.mk a r) : W (Cn (Tup Saying) Nl))) >>= fun t : (Cn (Tup Saying) Nl) => w_Order_first_not_kept_OrderTSaying o t.a) : W (Res Unit (Option Int) Empty)) : W (Res Unit (Option Int) Empty))
def w_Order_first_not_kept_OrderBook (a_self : Order) (a_sayings : Book) : W (Option Int) := finR (S := Unit) (L := Empty) (seqW (S1 := Unit) (((pure a_sayings : W Book) >>= fun o => (pure (o.sayings).l : W (List Saying))) >>= fun xs => forW (fun (v1_x : Saying) (v2_s : Unit) => (seqW (S1 := Unit) (dropW ((pure a_self : W Order) >>= fun o => ((((pure v1_x : W Saying) >>= fun o => (pure o.«where» : W Int)) >>= fun a => ((pure v1_x : W Saying) >>= fun o => (pure o.«then» : W Int)) >>= fun b => (pure (Builtin.bitOr a b) : W Int)) >>= fun a => (pure Nl.mk : W Nl) >>= fun r => (pure (Cn.mk a r) : W (Cn Int Nl))) >>= fun t : (Cn Int Nl) => w_Order_check_days o t.a)) fun v3_s =>
    (pure (.nx ()) : W (Res Unit (Option Int) Unit)))) xs ()) fun v4_s =>
    (seqW (S1 := Unit) (((pure a_sayings : W Book) >>= fun o => (pure (enumL (o.sayings).l) : W (List (T2 Int Saying)))) >>= fun xs => forW (fun (v5_x : (T2 Int Saying)) (v6_s : Unit) => (seqW (S1 := Unit) (ifW (((pure a_self : W Order) >>= fun o => ((pure v5_x.b : W Saying) >>= fun a => (pure Nl.mk : W Nl) >>= fun r => (pure (Cn.mk a r) : W (Cn Saying Nl))) >>= fun t : (Cn Saying Nl) => w_Order_keeps o t.a) >>= fun b => (pure (!b) : W Bool)) ((retW ((pure v5_x.a : W Int) >>= fun a => (pure (some a) : W (Option Int))) : W (Res Unit (Option Int) Unit)) : W (Res Unit (Option Int) Unit)) (pure (.nx ()) : W (Res Unit (Option Int) Unit))) fun v7_s =>
    (pure (.nx ()) : W (Res Unit (Option Int) Unit)))) xs ()) fun v8_s =>
    ((retW ((pure () : W Unit) >>= fun _ => (pure none : W (Option Int))) : W (Res Unit (Option Int) Empty)) : W (Res Unit (Option Int) Empty))))
def w_Order__call_OrderBook (a_self : Order) (a_sayings : Book) : W (Option Int) := finR (S := Unit) (L := Empty) ((retW ((pure a_self : W Order) >>= fun o => ((pure a_sayings : W Book) >>= fun a => (pure Nl.mk : W Nl) >>= fun r => (pure (Cn.mk a r) : W (Cn Book Nl))) >>= fun t : (Cn Book Nl) => w_Order_first_not_kept_OrderBook o t.a) : W (Res Unit (Option Int) Empty)) : W (Res Unit (Option Int) Empty))
def w_Order__call_S (o : Order) (s : (Sm3 (List Saying) (Tup Saying) Book)) : W (Option Int) := match s with | .a x => w_Order__call o ⟨x⟩ | .b x => w_Order__call_OrderTSaying o x | .c x => w_Order__call_OrderBook o x
def w_Order_keeps_all (a_self : Order) (a_sayings : (Bor Saying)) : W Bool := finR (S := Unit) (L := Empty) ((retW (((pure a_self : W Order) >>= fun o => ((pure (Bor.mk a_sayings.l) : W (Bor Saying)) >>= fun a => (pure Nl.mk : W Nl) >>= fun r => (pure (Cn.mk a r) : W (Cn (Bor Saying) Nl))) >>= fun t : (Cn (Bor Saying) Nl) => w_Order_first_not_kept o t.a) >>= fun a => (pure a.isNone : W Bool)) : W (Res Unit Bool Empty)) : W (Res Unit Bool Empty))
def w_Order_keeps_all_OrderTSaying (a_self : Order) (a_sayings : (Tup Saying)) : W Bool := finR (S := Unit) (L := Empty) ((retW (((pure a_self : W Order) >>= fun o => ((pure a_sayings : W (Tup Saying)) >>= fun a => (pure Nl.mk : W Nl) >>= fun r => (pure (Cn.mk a r) : W (Cn (Tup Saying) Nl))) >>= fun t : (Cn (Tup Saying) Nl) => w_Order_first_not_kept_OrderTSaying o t.a) >>= fun a => (pure a.isNone : W Bool)) : W (Res Unit Bool Empty)) : W (Res Unit Bool Empty))
def w_Order_keeps_all_OrderBook (a_self : Order) (a_sayings : Book) : W Bool := finR (S := Unit) (L := Empty) ((retW (((pure a_self : W Order) >>= fun o => ((pure a_sayings : W Book) >>= fun a => (pure Nl.mk : W Nl) >>= fun r => (pure (Cn.mk a r) : W (Cn Book Nl))) >>= fun t : (Cn Book Nl) => w_Order_first_not_kept_OrderBook o t.a) >>= fun a => (pure a.isNone : W Bool)) : W (Res Unit Bool Empty)) : W (Res Unit Bool Empty))
def w_Order_keeps_all_S (o : Order) (s : (Sm3 (List Saying) (Tup Saying) Book)) : W Bool := match s with | .a x => w_Order_keeps_all o ⟨x⟩ | .b x => w_Order_keeps_all_OrderTSaying o x | .c x => w_Order_keeps_all_OrderBook o x
def w_l_flag (a_thing : Bool) (a_due : Bool) : W Bool := finR (S := Unit) (L := Empty) ((retW (ifW (pure a_due : W Bool) ((pure a_thing : W Bool) >>= fun a => (pure true : W Bool) >>= fun b => (pure (decide (a = b)) : W Bool)) ((pure a_thing : W Bool) >>= fun a => (pure false : W Bool) >>= fun b => (pure (decide (a = b)) : W Bool))) : W (Res Unit Bool Empty)) : W (Res Unit Bool Empty))
def w_Saying_contrary (a_self : Saying) : W Saying := finR (S := Unit) (L := Empty) ((retW ((((pure a_self : W Saying) >>= fun o => (pure o.«where» : W Int)) >>= fun a => (((pure a_self : W Saying) >>= fun o => (pure o.«then» : W Int)) >>= fun a => ((((pure a_self : W Saying) >>= fun o => (pure o.usual : W Bool)) >>= fun b => (pure (!b) : W Bool)) >>= fun a => (pure Nl.mk : W Nl) >>= fun r => (pure (Cn.mk a r) : W (Cn Bool Nl))) >>= fun r => (pure (Cn.mk a r) : W (Cn Int (Cn Bool Nl)))) >>= fun r => (pure (Cn.mk a r) : W (Cn Int (Cn Int (Cn Bool Nl))))) >>= fun t : (Cn Int (Cn Int (Cn Bool Nl))) => w_Saying__init t.a t.r.a t.r.r.a) : W (Res Unit Saying Empty)) : W (Res Unit Saying Empty))
def w_set_of (a_days : (Bor Int)) : W Int := finR (S := Unit) (L := Empty) (seqW (S1 := Int) (setW (pure 0 : W Int)) fun v1_s =>
    (seqW (S1 := Int) ((pure a_days.l : W (List Int)) >>= fun xs => forW (fun (v2_x : Int) (v3_s : Int) => (seqW (S1 := Int) (setW ((pure v3_s : W Int) >>= fun a => ((pure 1 : W Int) >>= fun a => (pure v2_x : W Int) >>= fun b => (W.need (CPow a b) >>= fun _ => (pure (a * 2 ^ b.toNat) : W Int))) >>= fun b => (pure (Builtin.bitOr a b) : W Int))) fun v4_s =>
    (pure (.nx (v4_s)) : W (Res Int Int Int)))) xs (v1_s)) fun v5_s =>
    ((retW (pure v5_s : W Int) : W (Res Unit Int Empty)) : W (Res Unit Int Empty))))
def w_Order_normal (a_self : Order) (a_days : Int) : W Int := finR (S := Unit) (L := Empty) (seqW (S1 := (Option Int)) (setW ((pure a_self : W Order) >>= fun o => ((pure a_days : W Int) >>= fun a => (pure Nl.mk : W Nl) >>= fun r => (pure (Cn.mk a r) : W (Cn Int Nl))) >>= fun t : (Cn Int Nl) => w_Order_least o t.a)) fun v1_s =>
    ((retW ((((((((pure a_days : W Int) >>= fun a => (pure Nl.mk : W Nl) >>= fun r => (pure (Cn.mk a r) : W (Cn Int Nl))) >>= fun t : (Cn Int Nl) => w_days_in t.a) >>= fun t => (pure t.l : W (List Int))) >>= fun xs => W.need (xs.length ≤ sizeLine) >>= fun _ => compW (fun v3_x => ((((pure a_self : W Order) >>= fun o => (pure o.layers : W (Tup Int))) >>= fun a => (pure v3_x : W Int) >>= fun b => W.get (atI a.l b)) >>= fun a => (pure v1_s : W (Option Int)) >>= fun b => (pure (pyEq a b) : W Bool))) (fun (v3_x : Int) => (pure v3_x : W Int)) xs) >>= fun xs => (pure (Bor.mk xs) : W (Bor Int))) >>= fun a => (pure Nl.mk : W Nl) >>= fun r => (pure (Cn.mk a r) : W (Cn (Bor Int) Nl))) >>= fun t : (Cn (Bor Int) Nl) => w_set_of t.a) : W (Res Unit Int Empty)) : W (Res Unit Int Empty)))
def w_l_answers (a_order : Order) (a_layers_here : (Bor Int)) (a_sayings : (Bor (T3 Int Int Bool))) : W Bool := finR (S := Unit) (L := Empty) (seqW (S1 := (T2 (List Saying) (Option Int))) (setW ((((pure (Bor.mk a_sayings.l) : W (Bor (T3 Int Int Bool))) >>= fun a => (pure Nl.mk : W Nl) >>= fun r => (pure (Cn.mk a r) : W (Cn (Bor (T3 Int Int Bool)) Nl))) >>= fun t : (Cn (Bor (T3 Int Int Bool)) Nl) => w_l_said t.a) >>= fun a => (((pure (Bor.mk a_layers_here.l) : W (Bor Int)) >>= fun a => ((pure (Bor.mk a_sayings.l) : W (Bor (T3 Int Int Bool))) >>= fun a => (pure Nl.mk : W Nl) >>= fun r => (pure (Cn.mk a r) : W (Cn (Bor (T3 Int Int Bool)) Nl))) >>= fun r => (pure (Cn.mk a r) : W (Cn (Bor Int) (Cn (Bor (T3 Int Int Bool)) Nl)))) >>= fun t : (Cn (Bor Int) (Cn (Bor (T3 Int Int Bool)) Nl)) => w_l_first t.a t.r.a) >>= fun b => (pure (T2.mk a b) : W (T2 (List Saying) (Option Int))))) fun v1_s =>
    (seqW (S1 := Unit) ((((((pure v1_s.a : W (List Saying)) >>= fun a => (pure (Sm3.a a) : W (Sm3 (List Saying) (Tup Saying) Book))) >>= fun a => (((((pure v1_s.a : W (List Saying)) >>= fun xs => (pure (Bor.mk xs) : W (Bor Saying))) >>= fun a => (pure (Tup.mk a.l) : W (Tup Saying))) >>= fun a => (pure (Sm3.b a) : W (Sm3 (List Saying) (Tup Saying) Book))) >>= fun a => ((((((((pure (Bor.mk a_layers_here.l) : W (Bor Int)) >>= fun a => (pure (a.l.length : Int) : W Int)) >>= fun a => (pure Nl.mk : W Nl) >>= fun r => (pure (Cn.mk a r) : W (Cn Int Nl))) >>= fun t : (Cn Int Nl) => w_l_marks t.a) >>= fun a => (((pure v1_s.a : W (List Saying)) >>= fun xs => (pure (Bor.mk xs) : W (Bor Saying))) >>= fun a => (pure Nl.mk : W Nl) >>= fun r => (pure (Cn.mk a r) : W (Cn (Bor Saying) Nl))) >>= fun r => (pure (Cn.mk a r) : W (Cn Marks (Cn (Bor Saying) Nl)))) >>= fun t : (Cn Marks (Cn (Bor Saying) Nl)) => w_Book__init t.a t.r.a) >>= fun a => (pure (Sm3.c a) : W (Sm3 (List Saying) (Tup Saying) Book))) >>= fun a => (pure [] : W (List (Sm3 (List Saying) (Tup Saying) Book))) >>= fun r => (pure (a :: r) : W (List (Sm3 (List Saying) (Tup Saying) Book)))) >>= fun r => (pure (a :: r) : W (List (Sm3 (List Saying) (Tup Saying) Book)))) >>= fun r => (pure (a :: r) : W (List (Sm3 (List Saying) (Tup Saying) Book)))) >>= fun xs => W.need (xs.length ≤ sizeLine) >>= fun _ => (pure (Tup.mk xs) : W (Tup (Sm3 (List Saying) (Tup Saying) Book)))) >>= fun t => (pure t.l : W (List (Sm3 (List Saying) (Tup Saying) Book)))) >>= fun xs => forW (fun (v2_x : (Sm3 (List Saying) (Tup Saying) Book)) (v3_s : Unit) => (seqW (S1 := (Option Int)) (setW ((pure a_order : W Order) >>= fun o => ((pure v2_x : W (Sm3 (List Saying) (Tup Saying) Book)) >>= fun a => (pure Nl.mk : W Nl) >>= fun r => (pure (Cn.mk a r) : W (Cn (Sm3 (List Saying) (Tup Saying) Book) Nl))) >>= fun t : (Cn (Sm3 (List Saying) (Tup Saying) Book) Nl) => w_Order__call_S o t.a)) fun v4_s =>
    (seqW (S1 := Unit) (ifW (((pure v4_s : W (Option Int)) >>= fun a => (pure v1_s.b : W (Option Int)) >>= fun b => (pure (!pyEq a b) : W Bool)) >>= fun b => if b = true then (pure true : W Bool) else (((pure v4_s : W (Option Int)) >>= fun o => (pure (match o with | none => false | some _ => false) : W Bool)) >>= fun b => if b = true then (pure true : W Bool) else (((((pure a_order : W Order) >>= fun o => ((pure v2_x : W (Sm3 (List Saying) (Tup Saying) Book)) >>= fun a => (pure Nl.mk : W Nl) >>= fun r => (pure (Cn.mk a r) : W (Cn (Sm3 (List Saying) (Tup Saying) Book) Nl))) >>= fun t : (Cn (Sm3 (List Saying) (Tup Saying) Book) Nl) => w_Order_keeps_all_S o t.a) >>= fun a => (((pure v1_s.b : W (Option Int)) >>= fun a => (pure a.isNone : W Bool)) >>= fun a => (pure Nl.mk : W Nl) >>= fun r => (pure (Cn.mk a r) : W (Cn Bool Nl))) >>= fun r => (pure (Cn.mk a r) : W (Cn Bool (Cn Bool Nl)))) >>= fun t : (Cn Bool (Cn Bool Nl)) => w_l_flag t.a t.r.a) >>= fun b => (pure (!b) : W Bool)))) ((retW (pure false : W Bool) : W (Res Unit Bool Unit)) : W (Res Unit Bool Unit)) (pure (.nx ()) : W (Res Unit Bool Unit))) fun v5_s =>
    (pure (.nx ()) : W (Res Unit Bool Unit))))) xs ()) fun v6_s =>
    (seqW (S1 := Unit) (((pure a_sayings.l : W (List (T3 Int Int Bool))) >>= fun xs => (pure v1_s.a : W (List Saying)) >>= fun ys => (pure (zipL xs ys) : W (List (T2 (T3 Int Int Bool) Saying)))) >>= fun xs => forW (fun (v7_x : (T2 (T3 Int Int Bool) Saying)) (v8_s : Unit) => (seqW (S1 := Bool) (setW (((pure (Bor.mk a_layers_here.l) : W (Bor Int)) >>= fun a => ((pure v7_x.a : W (T3 Int Int Bool)) >>= fun a => (pure Nl.mk : W Nl) >>= fun r => (pure (Cn.mk a r) : W (Cn (T3 Int Int Bool) Nl))) >>= fun r => (pure (Cn.mk a r) : W (Cn (Bor Int) (Cn (T3 Int Int Bool) Nl)))) >>= fun t : (Cn (Bor Int) (Cn (T3 Int Int Bool) Nl)) => w_l_keeps t.a t.r.a)) fun v9_s =>
    (seqW (S1 := Unit) (ifW ((((((pure a_order : W Order) >>= fun o => ((pure v7_x.b : W Saying) >>= fun a => (pure Nl.mk : W Nl) >>= fun r => (pure (Cn.mk a r) : W (Cn Saying Nl))) >>= fun t : (Cn Saying Nl) => w_Order_keeps o t.a) >>= fun a => ((pure v9_s : W Bool) >>= fun a => (pure Nl.mk : W Nl) >>= fun r => (pure (Cn.mk a r) : W (Cn Bool Nl))) >>= fun r => (pure (Cn.mk a r) : W (Cn Bool (Cn Bool Nl)))) >>= fun t : (Cn Bool (Cn Bool Nl)) => w_l_flag t.a t.r.a) >>= fun b => (pure (!b) : W Bool)) >>= fun b => if b = true then (pure true : W Bool) else (((((pure a_order : W Order) >>= fun o => (((pure v7_x.b : W Saying) >>= fun o => (pure Nl.mk : W Nl) >>= fun t : Nl => w_Saying_contrary o) >>= fun a => (pure Nl.mk : W Nl) >>= fun r => (pure (Cn.mk a r) : W (Cn Saying Nl))) >>= fun t : (Cn Saying Nl) => w_Order_keeps o t.a) >>= fun a => (((pure v9_s : W Bool) >>= fun b => (pure (!b) : W Bool)) >>= fun a => (pure Nl.mk : W Nl) >>= fun r => (pure (Cn.mk a r) : W (Cn Bool Nl))) >>= fun r => (pure (Cn.mk a r) : W (Cn Bool (Cn Bool Nl)))) >>= fun t : (Cn Bool (Cn Bool Nl)) => w_l_flag t.a t.r.a) >>= fun b => (pure (!b) : W Bool))) ((retW (pure false : W Bool) : W (Res Unit Bool Unit)) : W (Res Unit Bool Unit)) (pure (.nx ()) : W (Res Unit Bool Unit))) fun v10_s =>
    (seqW (S1 := (T3 Int Int Bool)) (setW (pure v7_x.a : W (T3 Int Int Bool))) fun v11_s =>
    (seqW (S1 := Unit) (ifW ((pure v11_s.c : W Bool) >>= fun b => if b = true then (((((pure a_order : W Order) >>= fun o => ((pure v11_s.a : W Int) >>= fun a => (pure Nl.mk : W Nl) >>= fun r => (pure (Cn.mk a r) : W (Cn Int Nl))) >>= fun t : (Cn Int Nl) => w_Order_normal o t.a) >>= fun a => ((pure v11_s.b : W Int) >>= fun a => (pure (Builtin.bitNot a) : W Int)) >>= fun b => (pure (Builtin.bitAnd a b) : W Int)) >>= fun a => (pure 0 : W Int) >>= fun b => (pure (pyEq a b) : W Bool)) >>= fun a => (pure v9_s : W Bool) >>= fun b => (pure (!pyEq a b) : W Bool)) else (pure false : W Bool)) ((retW (pure false : W Bool) : W (Res Unit Bool Unit)) : W (Res Unit Bool Unit)) (pure (.nx ()) : W (Res Unit Bool Unit))) fun v12_s =>
    (pure (.nx ()) : W (Res Unit Bool Unit))))))) xs ()) fun v13_s =>
    ((retW (pure true : W Bool) : W (Res Unit Bool Empty)) : W (Res Unit Bool Empty)))))
def w_l_of_BagR3iib (a_bag_here : Bag) (a_some : (Bor (T3 Int Int Bool))) : W (T3 Int Int Bool) := finR (S := Unit) (L := Empty) ((retW ((pure (Bor.mk a_some.l) : W (Bor (T3 Int Int Bool))) >>= fun a => (((pure a_bag_here : W Bag) >>= fun a => (((pure (Bor.mk a_some.l) : W (Bor (T3 Int Int Bool))) >>= fun a => (pure (a.l.length : Int) : W Int)) >>= fun a => (pure Nl.mk : W Nl) >>= fun r => (pure (Cn.mk a r) : W (Cn Int Nl))) >>= fun r => (pure (Cn.mk a r) : W (Cn Bag (Cn Int Nl)))) >>= fun t : (Cn Bag (Cn Int Nl)) => w_take t.a t.r.a) >>= fun b => W.get (atI a.l b)) : W (Res Unit (T3 Int Int Bool) Empty)) : W (Res Unit (T3 Int Int Bool) Empty))
def w_l_refused (a_order : Order) (a_thing : Saying) (a_how : Int) : W Bool := finR (S := Unit) (L := Empty) (seqW (S1 := Unit) (tryW (ifW ((pure a_how : W Int) >>= fun a => (pure 0 : W Int) >>= fun b => (pure (pyEq a b) : W Bool)) (W.fail : W (Res Unit Bool Empty)) (ifW ((pure a_how : W Int) >>= fun a => (pure 1 : W Int) >>= fun b => (pure (pyEq a b) : W Bool)) (W.fail : W (Res Unit Bool Empty)) (dropW ((pure a_order : W Order) >>= fun o => ((pure a_thing : W Saying) >>= fun a => (pure Nl.mk : W Nl) >>= fun r => (pure (Cn.mk a r) : W (Cn Saying Nl))) >>= fun t : (Cn Saying Nl) => w_Order_keeps o t.a) : W (Res Unit Bool Empty)))) [((fun n => if n ∈ ([102, 107, 109, 112, 115] : List Nat) then some true else if n ∈ ([] : List Nat) then some false else none), fun v1_e => ((retW (W.need (v1_e.cls ∈ ([102, 107, 109, 112, 115] : List Nat)) >>= fun _ => (pure (decide (v1_e.cls ∈ ([112] : List Nat))) : W Bool)) : W (Res Unit Bool Empty)) : W (Res Unit Bool Empty)))] : W (Res Unit Bool Empty)) fun v2_s =>
    ((retW (pure false : W Bool) : W (Res Unit Bool Empty)) : W (Res Unit Bool Empty)))
def w_l_refused_OrderRSayingi (a_order : Order) (a_thing : (Bor Saying)) (a_how : Int) : W Bool := finR (S := Unit) (L := Empty) (seqW (S1 := Unit) (tryW (ifW ((pure a_how : W Int) >>= fun a => (pure 0 : W Int) >>= fun b => (pure (pyEq a b) : W Bool)) (dropW ((pure a_order : W Order) >>= fun o => ((pure (Bor.mk a_thing.l) : W (Bor Saying)) >>= fun a => (pure Nl.mk : W Nl) >>= fun r => (pure (Cn.mk a r) : W (Cn (Bor Saying) Nl))) >>= fun t : (Cn (Bor Saying) Nl) => w_Order__call o t.a) : W (Res Unit Bool Empty)) (ifW ((pure a_how : W Int) >>= fun a => (pure 1 : W Int) >>= fun b => (pure (pyEq a b) : W Bool)) (dropW ((pure a_order : W Order) >>= fun o => ((pure (Bor.mk a_thing.l) : W (Bor Saying)) >>= fun a => (pure Nl.mk : W Nl) >>= fun r => (pure (Cn.mk a r) : W (Cn (Bor Saying) Nl))) >>= fun t : (Cn (Bor Saying) Nl) => w_Order_keeps_all o t.a) : W (Res Unit Bool Empty)) (W.fail : W (Res Unit Bool Empty)))) [((fun n => if n ∈ ([102, 107, 109, 112, 115] : List Nat) then some true else if n ∈ ([] : List Nat) then some false else none), fun v1_e => ((retW (W.need (v1_e.cls ∈ ([102, 107, 109, 112, 115] : List Nat)) >>= fun _ => (pure (decide (v1_e.cls ∈ ([112] : List Nat))) : W Bool)) : W (Res Unit Bool Empty)) : W (Res Unit Bool Empty)))] : W (Res Unit Bool Empty)) fun v2_s =>
    ((retW (pure false : W Bool) : W (Res Unit Bool Empty)) : W (Res Unit Bool Empty)))
def w_l_refused_OrderTSayingi (a_order : Order) (a_thing : (Tup Saying)) (a_how : Int) : W Bool := finR (S := Unit) (L := Empty) (seqW (S1 := Unit) (tryW (ifW ((pure a_how : W Int) >>= fun a => (pure 0 : W Int) >>= fun b => (pure (pyEq a b) : W Bool)) (dropW ((pure a_order : W Order) >>= fun o => ((pure a_thing : W (Tup Saying)) >>= fun a => (pure Nl.mk : W Nl) >>= fun r => (pure (Cn.mk a r) : W (Cn (Tup Saying) Nl))) >>= fun t : (Cn (Tup Saying) Nl) => w_Order__call_OrderTSaying o t.a) : W (Res Unit Bool Empty)) (ifW ((pure a_how : W Int) >>= fun a => (pure 1 : W Int) >>= fun b => (pure (pyEq a b) : W Bool)) (dropW ((pure a_order : W Order) >>= fun o => ((pure a_thing : W (Tup Saying)) >>= fun a => (pure Nl.mk : W Nl) >>= fun r => (pure (Cn.mk a r) : W (Cn (Tup Saying) Nl))) >>= fun t : (Cn (Tup Saying) Nl) => w_Order_keeps_all_OrderTSaying o t.a) : W (Res Unit Bool Empty)) (W.fail : W (Res Unit Bool Empty)))) [((fun n => if n ∈ ([102, 107, 109, 112, 115] : List Nat) then some true else if n ∈ ([] : List Nat) then some false else none), fun v1_e => ((retW (W.need (v1_e.cls ∈ ([102, 107, 109, 112, 115] : List Nat)) >>= fun _ => (pure (decide (v1_e.cls ∈ ([112] : List Nat))) : W Bool)) : W (Res Unit Bool Empty)) : W (Res Unit Bool Empty)))] : W (Res Unit Bool Empty)) fun v2_s =>
    ((retW (pure false : W Bool) : W (Res Unit Bool Empty)) : W (Res Unit Bool Empty)))
def w_l_long (a_bag_here : Bag) (a_order : Order) (a_layers_here : (Bor Int)) : W Bool := finR (S := Unit) (L := Empty) (seqW (S1 := (List Saying)) (setW ((((((pure 3 : W Int) >>= fun j => W.need (-(2 ^ 62) ≤ j ∧ j < 2 ^ 62) >>= fun _ => (pure (rngL 0 j.toNat) : W (List Int))) >>= fun xs => W.need (xs.length ≤ sizeLine) >>= fun _ => compW (fun _ => (pure true : W Bool)) (fun (v2_x : Int) => (((pure a_bag_here : W Bag) >>= fun a => ((pure (Bor.mk a_layers_here.l) : W (Bor Int)) >>= fun a => (pure Nl.mk : W Nl) >>= fun r => (pure (Cn.mk a r) : W (Cn (Bor Int) Nl))) >>= fun r => (pure (Cn.mk a r) : W (Cn Bag (Cn (Bor Int) Nl)))) >>= fun t : (Cn Bag (Cn (Bor Int) Nl)) => w_l_toward t.a t.r.a)) xs) >>= fun xs => (pure (Bor.mk xs) : W (Bor (T3 Int Int Bool)))) >>= fun a => (pure Nl.mk : W Nl) >>= fun r => (pure (Cn.mk a r) : W (Cn (Bor (T3 Int Int Bool)) Nl))) >>= fun t : (Cn (Bor (T3 Int Int Bool)) Nl) => w_l_said t.a)) fun v3_s =>
    (seqW (S1 := (List Saying)) (setW (((((pure v3_s : W (List Saying)) >>= fun xs => (pure (Bor.mk xs) : W (Bor Saying))) >>= fun a => (pure 333 : W Int) >>= fun i => W.need (-(2 ^ 63) ≤ i ∧ i < 2 ^ 63 ∧ a.l.length * i.toNat ≤ sizeLine) >>= fun _ => (pure (List.replicate i.toNat a.l).flatten : W (List Saying))) >>= fun xs => (pure (Bor.mk xs) : W (Bor Saying))) >>= fun a => (((((((pure v3_s : W (List Saying)) >>= fun xs => (pure (Bor.mk xs) : W (Bor Saying))) >>= fun a => (pure 0 : W Int) >>= fun b => W.get (atI a.l b)) >>= fun o => (pure Nl.mk : W Nl) >>= fun t : Nl => w_Saying_contrary o) >>= fun a => (pure [] : W (List Saying)) >>= fun r => (pure (a :: r) : W (List Saying))) >>= fun xs => W.need (xs.length ≤ sizeLine) >>= fun _ => (pure xs : W (List Saying))) >>= fun xs => (pure (Bor.mk xs) : W (Bor Saying))) >>= fun b => W.need (a.l.length + b.l.length ≤ sizeLine) >>= fun _ => (pure (a.l ++ b.l) : W (List Saying)))) fun v4_s =>
    ((retW ((((pure a_order : W Order) >>= fun o => (((pure v4_s : W (List Saying)) >>= fun xs => (pure (Bor.mk xs) : W (Bor Saying))) >>= fun a => (pure Nl.mk : W Nl) >>= fun r => (pure (Cn.mk a r) : W (Cn (Bor Saying) Nl))) >>= fun t : (Cn (Bor Saying) Nl) => w_Order__call o t.a) >>= fun a => (pure 999 : W Int) >>= fun b => (pure (pyEq a b) : W Bool)) >>= fun b => if b = true then ((((pure a_order : W Order) >>= fun o => ((((pure v4_s : W (List Saying)) >>= fun xs => (pure (Bor.mk xs) : W (Bor Saying))) >>= fun a => (pure (Tup.mk a.l) : W (Tup Saying))) >>= fun a => (pure Nl.mk : W Nl) >>= fun r => (pure (Cn.mk a r) : W (Cn (Tup Saying) Nl))) >>= fun t : (Cn (Tup Saying) Nl) => w_Order_keeps_all_OrderTSaying o t.a) >>= fun a => ((pure false : W Bool) >>= fun a => (pure Nl.mk : W Nl) >>= fun r => (pure (Cn.mk a r) : W (Cn Bool Nl))) >>= fun r => (pure (Cn.mk a r) : W (Cn Bool (Cn Bool Nl)))) >>= fun t : (Cn Bool (Cn Bool Nl)) => w_l_flag t.a t.r.a) else (pure false : W Bool)) : W (Res Unit Bool Empty)) : W (Res Unit Bool Empty))))
def w_law (a_script : Scr) : W Bool := finR (S := Unit) (L := Empty) (seqW (S1 := Bag) (setW (((pure a_script : W Scr) >>= fun a => ((pure 0 : W Int) >>= fun a => (pure Nl.mk : W Nl) >>= fun r => (pure (Cn.mk a r) : W (Cn Int Nl))) >>= fun r => (pure (Cn.mk a r) : W (Cn Scr (Cn Int Nl)))) >>= fun t : (Cn Scr (Cn Int Nl)) => w_bag t.a t.r.a)) fun v1_s =>
    (seqW (S1 := Int) (setW (((pure v1_s : W Bag) >>= fun a => (((((pure 2 : W Int) >>= fun a => ((pure 4 : W Int) >>= fun a => ((pure 4 : W Int) >>= fun a => ((pure 8 : W Int) >>= fun a => ((pure 16 : W Int) >>= fun a => (pure [] : W (List Int)) >>= fun r => (pure (a :: r) : W (List Int))) >>= fun r => (pure (a :: r) : W (List Int))) >>= fun r => (pure (a :: r) : W (List Int))) >>= fun r => (pure (a :: r) : W (List Int))) >>= fun r => (pure (a :: r) : W (List Int))) >>= fun xs => W.need (xs.length ≤ sizeLine) >>= fun _ => (pure xs : W (List Int))) >>= fun xs => (pure (Bor.mk xs) : W (Bor Int))) >>= fun a => (pure Nl.mk : W Nl) >>= fun r => (pure (Cn.mk a r) : W (Cn (Bor Int) Nl))) >>= fun r => (pure (Cn.mk a r) : W (Cn Bag (Cn (Bor Int) Nl)))) >>= fun t : (Cn Bag (Cn (Bor Int) Nl)) => w_l_of t.a t.r.a)) fun v2_s =>
    (seqW (S1 := (T2 (List Int) (List Int))) (setW ((((pure v1_s : W Bag) >>= fun a => ((pure v2_s : W Int) >>= fun a => (pure Nl.mk : W Nl) >>= fun r => (pure (Cn.mk a r) : W (Cn Int Nl))) >>= fun r => (pure (Cn.mk a r) : W (Cn Bag (Cn Int Nl)))) >>= fun t : (Cn Bag (Cn Int Nl)) => w_l_layers t.a t.r.a) >>= fun a => (((((pure a_script : W Scr) >>= fun a => ((pure 1 : W Int) >>= fun a => (pure Nl.mk : W Nl) >>= fun r => (pure (Cn.mk a r) : W (Cn Int Nl))) >>= fun r => (pure (Cn.mk a r) : W (Cn Scr (Cn Int Nl)))) >>= fun t : (Cn Scr (Cn Int Nl)) => w_bag t.a t.r.a) >>= fun a => ((pure v2_s : W Int) >>= fun a => (pure Nl.mk : W Nl) >>= fun r => (pure (Cn.mk a r) : W (Cn Int Nl))) >>= fun r => (pure (Cn.mk a r) : W (Cn Bag (Cn Int Nl)))) >>= fun t : (Cn Bag (Cn Int Nl)) => w_l_layers t.a t.r.a) >>= fun b => (pure (T2.mk a b) : W (T2 (List Int) (List Int))))) fun v3_s =>
    (seqW (S1 := (List (T3 Int Int Bool))) (setW ((pure [] : W (List (T3 Int Int Bool))) >>= fun xs => W.need (xs.length ≤ sizeLine) >>= fun _ => (pure xs : W (List (T3 Int Int Bool))))) fun v4_s =>
    (seqW (S1 := (List (T3 Int Int Bool))) (((((pure v1_s : W Bag) >>= fun a => (((((pure 1 : W Int) >>= fun a => ((pure 3 : W Int) >>= fun a => ((pure 5 : W Int) >>= fun a => ((pure 8 : W Int) >>= fun a => (pure [] : W (List Int)) >>= fun r => (pure (a :: r) : W (List Int))) >>= fun r => (pure (a :: r) : W (List Int))) >>= fun r => (pure (a :: r) : W (List Int))) >>= fun r => (pure (a :: r) : W (List Int))) >>= fun xs => W.need (xs.length ≤ sizeLine) >>= fun _ => (pure xs : W (List Int))) >>= fun xs => (pure (Bor.mk xs) : W (Bor Int))) >>= fun a => (pure Nl.mk : W Nl) >>= fun r => (pure (Cn.mk a r) : W (Cn (Bor Int) Nl))) >>= fun r => (pure (Cn.mk a r) : W (Cn Bag (Cn (Bor Int) Nl)))) >>= fun t : (Cn Bag (Cn (Bor Int) Nl)) => w_l_of t.a t.r.a) >>= fun j => W.need (-(2 ^ 62) ≤ j ∧ j < 2 ^ 62) >>= fun _ => (pure (rngL 0 j.toNat) : W (List Int))) >>= fun xs => forW (fun (v5_x : Int) (v6_s : (List (T3 Int Int Bool))) => (seqW (S1 := Int) (setW (((pure v1_s : W Bag) >>= fun a => ((pure 8 : W Int) >>= fun a => (pure Nl.mk : W Nl) >>= fun r => (pure (Cn.mk a r) : W (Cn Int Nl))) >>= fun r => (pure (Cn.mk a r) : W (Cn Bag (Cn Int Nl)))) >>= fun t : (Cn Bag (Cn Int Nl)) => w_take t.a t.r.a)) fun v7_s =>
    (seqW (S1 := (T3 Int Int Bool)) (setW (ifW ((pure v7_s : W Int) >>= fun a => (pure 4 : W Int) >>= fun b => (pure (decide (a < b)) : W Bool)) (((pure v1_s : W Bag) >>= fun a => (((pure v3_s.a : W (List Int)) >>= fun xs => (pure (Bor.mk xs) : W (Bor Int))) >>= fun a => (pure Nl.mk : W Nl) >>= fun r => (pure (Cn.mk a r) : W (Cn (Bor Int) Nl))) >>= fun r => (pure (Cn.mk a r) : W (Cn Bag (Cn (Bor Int) Nl)))) >>= fun t : (Cn Bag (Cn (Bor Int) Nl)) => w_l_toward t.a t.r.a) (((pure v1_s : W Bag) >>= fun a => ((pure v2_s : W Int) >>= fun a => (pure Nl.mk : W Nl) >>= fun r => (pure (Cn.mk a r) : W (Cn Int Nl))) >>= fun r => (pure (Cn.mk a r) : W (Cn Bag (Cn Int Nl)))) >>= fun t : (Cn Bag (Cn Int Nl)) => w_l_any t.a t.r.a))) fun v8_s =>
    (seqW (S1 := (T3 Int Int Bool)) (ifW ((pure v7_s : W Int) >>= fun a => (pure 6 : W Int) >>= fun b => (pure (pyEq a b) : W Bool)) (seqW (S1 := (T3 Int Int Bool)) (setW (((pure v8_s : W (T3 Int Int Bool)) >>= fun t => (pure t.a : W Int)) >>= fun a => (((pure v1_s : W Bag) >>= fun a => (((((pure 0 : W Int) >>= fun a => (((pure v8_s : W (T3 Int Int Bool)) >>= fun t => (pure t.a : W Int)) >>= fun a => ((((pure v8_s : W (T3 Int Int Bool)) >>= fun t => (pure t.b : W Int)) >>= fun a => (((pure v8_s : W (T3 Int Int Bool)) >>= fun t => (pure t.a : W Int)) >>= fun a => (pure (Builtin.bitNot a) : W Int)) >>= fun b => (pure (Builtin.bitAnd a b) : W Int)) >>= fun a => (pure [] : W (List Int)) >>= fun r => (pure (a :: r) : W (List Int))) >>= fun r => (pure (a :: r) : W (List Int))) >>= fun r => (pure (a :: r) : W (List Int))) >>= fun xs => W.need (xs.length ≤ sizeLine) >>= fun _ => (pure xs : W (List Int))) >>= fun xs => (pure (Bor.mk xs) : W (Bor Int))) >>= fun a => (pure Nl.mk : W Nl) >>= fun r => (pure (Cn.mk a r) : W (Cn (Bor Int) Nl))) >>= fun r => (pure (Cn.mk a r) : W (Cn Bag (Cn (Bor Int) Nl)))) >>= fun t : (Cn Bag (Cn (Bor Int) Nl)) => w_l_of t.a t.r.a) >>= fun b => ((pure v8_s : W (T3 Int Int Bool)) >>= fun t => (pure t.c : W Bool)) >>= fun c => (pure (T3.mk a b c) : W (T3 Int Int Bool)))) fun v9_s =>
    (pure (.nx (v9_s)) : W (Res (T3 Int Int Bool) Bool (List (T3 Int Int Bool))))) (pure (.nx (v8_s)) : W (Res (T3 Int Int Bool) Bool (List (T3 Int Int Bool))))) fun v10_s =>
    (seqW (S1 := (List (T3 Int Int Bool))) ((pure v10_s : W (T3 Int Int Bool)) >>= fun a => W.need ((v6_s).length < sizeLine) >>= fun _ => pure (.nx (v6_s ++ [a]))) fun v11_s =>
    (pure (.nx (v11_s)) : W (Res (List (T3 Int Int Bool)) Bool (List (T3 Int Int Bool))))))))) xs (v4_s)) fun v12_s =>
    (seqW (S1 := (T2 Order Order)) (setW (((((pure v3_s.a : W (List Int)) >>= fun xs => (pure (Bor.mk xs) : W (Bor Int))) >>= fun a => (pure Nl.mk : W Nl) >>= fun r => (pure (Cn.mk a r) : W (Cn (Bor Int) Nl))) >>= fun t : (Cn (Bor Int) Nl) => w_Order__init t.a) >>= fun a => ((((pure v3_s.b : W (List Int)) >>= fun xs => (pure (Bor.mk xs) : W (Bor Int))) >>= fun a => (pure Nl.mk : W Nl) >>= fun r => (pure (Cn.mk a r) : W (Cn (Bor Int) Nl))) >>= fun t : (Cn (Bor Int) Nl) => w_Order__init t.a) >>= fun b => (pure (T2.mk a b) : W (T2 Order Order)))) fun v13_s =>
    (seqW (S1 := Unit) (ifW (((((pure v13_s.a : W Order) >>= fun a => (((pure v3_s.a : W (List Int)) >>= fun xs => (pure (Bor.mk xs) : W (Bor Int))) >>= fun a => (((pure v12_s : W (List (T3 Int Int Bool))) >>= fun xs => (pure (Bor.mk xs) : W (Bor (T3 Int Int Bool)))) >>= fun a => (pure Nl.mk : W Nl) >>= fun r => (pure (Cn.mk a r) : W (Cn (Bor (T3 Int Int Bool)) Nl))) >>= fun r => (pure (Cn.mk a r) : W (Cn (Bor Int) (Cn (Bor (T3 Int Int Bool)) Nl)))) >>= fun r => (pure (Cn.mk a r) : W (Cn Order (Cn (Bor Int) (Cn (Bor (T3 Int Int Bool)) Nl))))) >>= fun t : (Cn Order (Cn (Bor Int) (Cn (Bor (T3 Int Int Bool)) Nl))) => w_l_answers t.a t.r.a t.r.r.a) >>= fun b => (pure (!b) : W Bool)) >>= fun b => if b = true then (pure true : W Bool) else ((((pure v13_s.b : W Order) >>= fun a => (((pure v3_s.b : W (List Int)) >>= fun xs => (pure (Bor.mk xs) : W (Bor Int))) >>= fun a => (((pure v12_s : W (List (T3 Int Int Bool))) >>= fun xs => (pure (Bor.mk xs) : W (Bor (T3 Int Int Bool)))) >>= fun a => (pure Nl.mk : W Nl) >>= fun r => (pure (Cn.mk a r) : W (Cn (Bor (T3 Int Int Bool)) Nl))) >>= fun r => (pure (Cn.mk a r) : W (Cn (Bor Int) (Cn (Bor (T3 Int Int Bool)) Nl)))) >>= fun r => (pure (Cn.mk a r) : W (Cn Order (Cn (Bor Int) (Cn (Bor (T3 Int Int Bool)) Nl))))) >>= fun t : (Cn Order (Cn (Bor Int) (Cn (Bor (T3 Int Int Bool)) Nl))) => w_l_answers t.a t.r.a t.r.r.a) >>= fun b => (pure (!b) : W Bool))) ((retW (pure false : W Bool) : W (Res Unit Bool Empty)) : W (Res Unit Bool Empty)) (pure (.nx ()) : W (Res Unit Bool Empty))) fun v14_s =>
    (seqW (S1 := Unit) (ifW (((((pure v13_s.a : W Order) >>= fun a => (((pure v3_s.a : W (List Int)) >>= fun xs => (pure (Bor.mk xs) : W (Bor Int))) >>= fun a => (((((pure v12_s : W (List (T3 Int Int Bool))) >>= fun xs => (pure (Bor.mk xs) : W (Bor (T3 Int Int Bool)))) >>= fun a => (pure a.l.reverse : W (List (T3 Int Int Bool)))) >>= fun xs => (pure (Bor.mk xs) : W (Bor (T3 Int Int Bool)))) >>= fun a => (pure Nl.mk : W Nl) >>= fun r => (pure (Cn.mk a r) : W (Cn (Bor (T3 Int Int Bool)) Nl))) >>= fun r => (pure (Cn.mk a r) : W (Cn (Bor Int) (Cn (Bor (T3 Int Int Bool)) Nl)))) >>= fun r => (pure (Cn.mk a r) : W (Cn Order (Cn (Bor Int) (Cn (Bor (T3 Int Int Bool)) Nl))))) >>= fun t : (Cn Order (Cn (Bor Int) (Cn (Bor (T3 Int Int Bool)) Nl))) => w_l_answers t.a t.r.a t.r.r.a) >>= fun b => (pure (!b) : W Bool)) >>= fun b => if b = true then (pure true : W Bool) else ((((pure v13_s.a : W Order) >>= fun a => (((pure v3_s.a : W (List Int)) >>= fun xs => (pure (Bor.mk xs) : W (Bor Int))) >>= fun a => ((((pure [] : W (List (T3 Int Int Bool))) >>= fun xs => W.need (xs.length ≤ sizeLine) >>= fun _ => (pure xs : W (List (T3 Int Int Bool)))) >>= fun xs => (pure (Bor.mk xs) : W (Bor (T3 Int Int Bool)))) >>= fun a => (pure Nl.mk : W Nl) >>= fun r => (pure (Cn.mk a r) : W (Cn (Bor (T3 Int Int Bool)) Nl))) >>= fun r => (pure (Cn.mk a r) : W (Cn (Bor Int) (Cn (Bor (T3 Int Int Bool)) Nl)))) >>= fun r => (pure (Cn.mk a r) : W (Cn Order (Cn (Bor Int) (Cn (Bor (T3 Int Int Bool)) Nl))))) >>= fun t : (Cn Order (Cn (Bor Int) (Cn (Bor (T3 Int Int Bool)) Nl))) => w_l_answers t.a t.r.a t.r.r.a) >>= fun b => (pure (!b) : W Bool))) ((retW (pure false : W Bool) : W (Res Unit Bool Empty)) : W (Res Unit Bool Empty)) (pure (.nx ()) : W (Res Unit Bool Empty))) fun v15_s =>
    (seqW (S1 := Unit) (ifW ((pure v2_s : W Int) >>= fun a => (pure 16 : W Int) >>= fun b => (pure (decide (a < b)) : W Bool)) (seqW (S1 := (T3 Int Int Bool)) (setW (((pure v1_s : W Bag) >>= fun a => (((pure v12_s : W (List (T3 Int Int Bool))) >>= fun xs => (pure (Bor.mk xs) : W (Bor (T3 Int Int Bool)))) >>= fun a => (pure Nl.mk : W Nl) >>= fun r => (pure (Cn.mk a r) : W (Cn (Bor (T3 Int Int Bool)) Nl))) >>= fun r => (pure (Cn.mk a r) : W (Cn Bag (Cn (Bor (T3 Int Int Bool)) Nl)))) >>= fun t : (Cn Bag (Cn (Bor (T3 Int Int Bool)) Nl)) => w_l_of_BagR3iib t.a t.r.a)) fun v16_s =>
    (seqW (S1 := Int) (setW ((pure 1 : W Int) >>= fun a => ((pure v2_s : W Int) >>= fun a => (((pure v1_s : W Bag) >>= fun a => (((pure 16 : W Int) >>= fun a => (pure v2_s : W Int) >>= fun b => (pure (a - b) : W Int)) >>= fun a => (pure Nl.mk : W Nl) >>= fun r => (pure (Cn.mk a r) : W (Cn Int Nl))) >>= fun r => (pure (Cn.mk a r) : W (Cn Bag (Cn Int Nl)))) >>= fun t : (Cn Bag (Cn Int Nl)) => w_take t.a t.r.a) >>= fun b => (pure (a + b) : W Int)) >>= fun b => (W.need (CPow a b) >>= fun _ => (pure (a * 2 ^ b.toNat) : W Int)))) fun v17_s =>
    (seqW (S1 := Int) (setW (((pure v1_s : W Bag) >>= fun a => (((((pure v12_s : W (List (T3 Int Int Bool))) >>= fun xs => (pure (Bor.mk xs) : W (Bor (T3 Int Int Bool)))) >>= fun a => (pure (a.l.length : Int) : W Int)) >>= fun a => (pure 1 : W Int) >>= fun b => (pure (a + b) : W Int)) >>= fun a => (pure Nl.mk : W Nl) >>= fun r => (pure (Cn.mk a r) : W (Cn Int Nl))) >>= fun r => (pure (Cn.mk a r) : W (Cn Bag (Cn Int Nl)))) >>= fun t : (Cn Bag (Cn Int Nl)) => w_take t.a t.r.a)) fun v18_s =>
    (seqW (S1 := Unit) ((((((((pure v16_s.a : W Int) >>= fun a => (pure v17_s : W Int) >>= fun b => (pure (Builtin.bitOr a b) : W Int)) >>= fun a => ((pure v16_s.b : W Int) >>= fun a => ((pure v16_s.c : W Bool) >>= fun a => (pure Nl.mk : W Nl) >>= fun r => (pure (Cn.mk a r) : W (Cn Bool Nl))) >>= fun r => (pure (Cn.mk a r) : W (Cn Int (Cn Bool Nl)))) >>= fun r => (pure (Cn.mk a r) : W (Cn Int (Cn Int (Cn Bool Nl))))) >>= fun t : (Cn Int (Cn Int (Cn Bool Nl))) => w_Saying__init t.a t.r.a t.r.r.a) >>= fun a => ((((pure v16_s.a : W Int) >>= fun a => (((pure v16_s.b : W Int) >>= fun a => (pure v17_s : W Int) >>= fun b => (pure (Builtin.bitOr a b) : W Int)) >>= fun a => ((pure v16_s.c : W Bool) >>= fun a => (pure Nl.mk : W Nl) >>= fun r => (pure (Cn.mk a r) : W (Cn Bool Nl))) >>= fun r => (pure (Cn.mk a r) : W (Cn Int (Cn Bool Nl)))) >>= fun r => (pure (Cn.mk a r) : W (Cn Int (Cn Int (Cn Bool Nl))))) >>= fun t : (Cn Int (Cn Int (Cn Bool Nl))) => w_Saying__init t.a t.r.a t.r.r.a) >>= fun a => (pure [] : W (List Saying)) >>= fun r => (pure (a :: r) : W (List Saying))) >>= fun r => (pure (a :: r) : W (List Saying))) >>= fun xs => W.need (xs.length ≤ sizeLine) >>= fun _ => (pure (Tup.mk xs) : W (Tup Saying))) >>= fun t => (pure t.l : W (List Saying))) >>= fun xs => forW (fun (v19_x : Saying) (v20_s : Unit) => (seqW (S1 := (List Saying)) (setW ((((pure v12_s : W (List (T3 Int Int Bool))) >>= fun xs => (pure (Bor.mk xs) : W (Bor (T3 Int Int Bool)))) >>= fun a => (pure Nl.mk : W Nl) >>= fun r => (pure (Cn.mk a r) : W (Cn (Bor (T3 Int Int Bool)) Nl))) >>= fun t : (Cn (Bor (T3 Int Int Bool)) Nl) => w_l_said t.a)) fun v21_s =>
    (seqW (S1 := (List Saying)) ((pure v18_s : W Int) >>= fun k => (pure v19_x : W Saying) >>= fun a => W.need ((v21_s).length < sizeLine ∧ 0 ≤ k ∧ k < 2 ^ 63) >>= fun _ => pure (.nx (insL v21_s k a))) fun v22_s =>
    (seqW (S1 := Unit) (ifW (((((pure v13_s.a : W Order) >>= fun a => ((pure v19_x : W Saying) >>= fun a => ((pure 2 : W Int) >>= fun a => (pure Nl.mk : W Nl) >>= fun r => (pure (Cn.mk a r) : W (Cn Int Nl))) >>= fun r => (pure (Cn.mk a r) : W (Cn Saying (Cn Int Nl)))) >>= fun r => (pure (Cn.mk a r) : W (Cn Order (Cn Saying (Cn Int Nl))))) >>= fun t : (Cn Order (Cn Saying (Cn Int Nl))) => w_l_refused t.a t.r.a t.r.r.a) >>= fun b => (pure (!b) : W Bool)) >>= fun b => if b = true then (pure true : W Bool) else (((((pure v13_s.a : W Order) >>= fun a => (((((pure v19_x : W Saying) >>= fun a => (pure [] : W (List Saying)) >>= fun r => (pure (a :: r) : W (List Saying))) >>= fun xs => W.need (xs.length ≤ sizeLine) >>= fun _ => (pure xs : W (List Saying))) >>= fun xs => (pure (Bor.mk xs) : W (Bor Saying))) >>= fun a => ((pure 0 : W Int) >>= fun a => (pure Nl.mk : W Nl) >>= fun r => (pure (Cn.mk a r) : W (Cn Int Nl))) >>= fun r => (pure (Cn.mk a r) : W (Cn (Bor Saying) (Cn Int Nl)))) >>= fun r => (pure (Cn.mk a r) : W (Cn Order (Cn (Bor Saying) (Cn Int Nl))))) >>= fun t : (Cn Order (Cn (Bor Saying) (Cn Int Nl))) => w_l_refused_OrderRSayingi t.a t.r.a t.r.r.a) >>= fun b => (pure (!b) : W Bool)) >>= fun b => if b = true then (pure true : W Bool) else ((((pure v13_s.a : W Order) >>= fun a => ((((pure v19_x : W Saying) >>= fun a => (pure [] : W (List Saying)) >>= fun r => (pure (a :: r) : W (List Saying))) >>= fun xs => W.need (xs.length ≤ sizeLine) >>= fun _ => (pure (Tup.mk xs) : W (Tup Saying))) >>= fun a => ((pure 1 : W Int) >>= fun a => (pure Nl.mk : W Nl) >>= fun r => (pure (Cn.mk a r) : W (Cn Int Nl))) >>= fun r => (pure (Cn.mk a r) : W (Cn (Tup Saying) (Cn Int Nl)))) >>= fun r => (pure (Cn.mk a r) : W (Cn Order (Cn (Tup Saying) (Cn Int Nl))))) >>= fun t : (Cn Order (Cn (Tup Saying) (Cn Int Nl))) => w_l_refused_OrderTSayingi t.a t.r.a t.r.r.a) >>= fun b => (pure (!b) : W Bool)))) ((retW (pure false : W Bool) : W (Res Unit Bool Unit)) : W (Res Unit Bool Unit)) (pure (.nx ()) : W (Res Unit Bool Unit))) fun v23_s =>
    (seqW (S1 := Unit) (ifW (((((pure v13_s.a : W Order) >>= fun a => (((pure v22_s : W (List Saying)) >>= fun xs => (pure (Bor.mk xs) : W (Bor Saying))) >>= fun a => ((pure 0 : W Int) >>= fun a => (pure Nl.mk : W Nl) >>= fun r => (pure (Cn.mk a r) : W (Cn Int Nl))) >>= fun r => (pure (Cn.mk a r) : W (Cn (Bor Saying) (Cn Int Nl)))) >>= fun r => (pure (Cn.mk a r) : W (Cn Order (Cn (Bor Saying) (Cn Int Nl))))) >>= fun t : (Cn Order (Cn (Bor Saying) (Cn Int Nl))) => w_l_refused_OrderRSayingi t.a t.r.a t.r.r.a) >>= fun b => (pure (!b) : W Bool)) >>= fun b => if b = true then (pure true : W Bool) else ((((pure v13_s.b : W Order) >>= fun a => ((((pure v22_s : W (List Saying)) >>= fun xs => (pure (Bor.mk xs) : W (Bor Saying))) >>= fun a => (pure (Tup.mk a.l) : W (Tup Saying))) >>= fun a => ((pure 1 : W Int) >>= fun a => (pure Nl.mk : W Nl) >>= fun r => (pure (Cn.mk a r) : W (Cn Int Nl))) >>= fun r => (pure (Cn.mk a r) : W (Cn (Tup Saying) (Cn Int Nl)))) >>= fun r => (pure (Cn.mk a r) : W (Cn Order (Cn (Tup Saying) (Cn Int Nl))))) >>= fun t : (Cn Order (Cn (Tup Saying) (Cn Int Nl))) => w_l_refused_OrderTSayingi t.a t.r.a t.r.r.a) >>= fun b => (pure (!b) : W Bool))) ((retW (pure false : W Bool) : W (Res Unit Bool Unit)) : W (Res Unit Bool Unit)) (pure (.nx ()) : W (Res Unit Bool Unit))) fun v24_s =>
    (pure (.nx ()) : W (Res Unit Bool Unit))))))) xs ()) fun v25_s =>
    (pure (.nx ()) : W (Res Unit Bool Empty)))))) (pure (.nx ()) : W (Res Unit Bool Empty))) fun v26_s =>
    (seqW (S1 := Unit) (ifW (((((pure v1_s : W Bag) >>= fun a => ((pure 10 : W Int) >>= fun a => (pure Nl.mk : W Nl) >>= fun r => (pure (Cn.mk a r) : W (Cn Int Nl))) >>= fun r => (pure (Cn.mk a r) : W (Cn Bag (Cn Int Nl)))) >>= fun t : (Cn Bag (Cn Int Nl)) => w_take t.a t.r.a) >>= fun a => (pure 0 : W Int) >>= fun b => (pure (pyEq a b) : W Bool)) >>= fun b => if b = true then ((((pure v1_s : W Bag) >>= fun a => ((pure v13_s.a : W Order) >>= fun a => (((pure v3_s.a : W (List Int)) >>= fun xs => (pure (Bor.mk xs) : W (Bor Int))) >>= fun a => (pure Nl.mk : W Nl) >>= fun r => (pure (Cn.mk a r) : W (Cn (Bor Int) Nl))) >>= fun r => (pure (Cn.mk a r) : W (Cn Order (Cn (Bor Int) Nl)))) >>= fun r => (pure (Cn.mk a r) : W (Cn Bag (Cn Order (Cn (Bor Int) Nl))))) >>= fun t : (Cn Bag (Cn Order (Cn (Bor Int) Nl))) => w_l_long t.a t.r.a t.r.r.a) >>= fun b => (pure (!b) : W Bool)) else (pure false : W Bool)) ((retW (pure false : W Bool) : W (Res Unit Bool Empty)) : W (Res Unit Bool Empty)) (pure (.nx ()) : W (Res Unit Bool Empty))) fun v27_s =>
    ((retW ((((pure v13_s.b : W Order) >>= fun a => (((pure v3_s.b : W (List Int)) >>= fun xs => (pure (Bor.mk xs) : W (Bor Int))) >>= fun a => (((pure v12_s : W (List (T3 Int Int Bool))) >>= fun xs => (pure (Bor.mk xs) : W (Bor (T3 Int Int Bool)))) >>= fun a => (pure Nl.mk : W Nl) >>= fun r => (pure (Cn.mk a r) : W (Cn (Bor (T3 Int Int Bool)) Nl))) >>= fun r => (pure (Cn.mk a r) : W (Cn (Bor Int) (Cn (Bor (T3 Int Int Bool)) Nl)))) >>= fun r => (pure (Cn.mk a r) : W (Cn Order (Cn (Bor Int) (Cn (Bor (T3 Int Int Bool)) Nl))))) >>= fun t : (Cn Order (Cn (Bor Int) (Cn (Bor (T3 Int Int Bool)) Nl))) => w_l_answers t.a t.r.a t.r.r.a) >>= fun b => if b = true then (((pure v13_s.a : W Order) >>= fun o => (pure o.layers : W (Tup Int))) >>= fun a => (((pure v3_s.a : W (List Int)) >>= fun xs => (pure (Bor.mk xs) : W (Bor Int))) >>= fun a => (pure (Tup.mk a.l) : W (Tup Int))) >>= fun b => (W.need (shd a ∧ shd b) >>= fun _ => (pure (dtEq a b) : W Bool))) else (pure false : W Bool)) : W (Res Unit Bool Empty)) : W (Res Unit Bool Empty))))))))))))
end TW
set_option Elab.async false
set_option maxRecDepth 100000
set_option maxHeartbeats 8000000
set_option linter.all false
set_option autoImplicit false
/-! programs of plain values -/
namespace TW
open Pa (rep)
open PaL (repL)
open PySem PySem.Spec PyProof.Rows L2 My

def w_Order_check_length (a_self : Order) (a_other : Order) : W Unit := finN (S := Unit) (L := Empty) (seqW (S1 := Unit) (ifW ((((pure a_self : W Order) >>= fun o => (pure o.layers : W (Tup Int))) >>= fun a => (pure (a.l.length : Int) : W Int)) >>= fun a => (((pure a_other : W Order) >>= fun o => (pure o.layers : W (Tup Int))) >>= fun a => (pure (a.l.length : Int) : W Int)) >>= fun b => (pure (!pyEq a b) : W Bool)) ((W.thr ⟨112, []⟩ : W (Res Unit Unit Empty)) : W (Res Unit Unit Empty)) (pure (.nx ()) : W (Res Unit Unit Empty))) fun v1_s =>
    (pure (.nx ()) : W (Res Unit Unit Empty)))
def w_Order__and (a_self : Order) (a_other : Order) : W Order := finR (S := Unit) (L := Empty) (seqW (S1 := Unit) (dropW ((pure a_self : W Order) >>= fun o => ((pure a_other : W Order) >>= fun a => (pure Nl.mk : W Nl) >>= fun r => (pure (Cn.mk a r) : W (Cn Order Nl))) >>= fun t : (Cn Order Nl) => w_Order_check_length o t.a)) fun v1_s =>
    ((retW ((((((((pure a_self : W Order) >>= fun o => (pure o.layers : W (Tup Int))) >>= fun t => (pure t.l : W (List Int))) >>= fun xs => (((pure a_other : W Order) >>= fun o => (pure o.layers : W (Tup Int))) >>= fun t => (pure t.l : W (List Int))) >>= fun ys => (pure (zipL xs ys) : W (List (T2 Int Int)))) >>= fun xs => W.need (xs.length ≤ sizeLine) >>= fun _ => compW (fun _ => (pure true : W Bool)) (fun (v3_x : (T2 Int Int)) => ((pure v3_x.a : W Int) >>= fun a => (pure v3_x.b : W Int) >>= fun b => (pure (min a b) : W Int))) xs) >>= fun xs => (pure (Bor.mk xs) : W (Bor Int))) >>= fun a => (pure Nl.mk : W Nl) >>= fun r => (pure (Cn.mk a r) : W (Cn (Bor Int) Nl))) >>= fun t : (Cn (Bor Int) Nl) => w_Order__init t.a) : W (Res Unit Order Empty)) : W (Res Unit Order Empty)))
def w_Order__eq (a_self : Order) (a_other : Order) : W Bool := finR (S := Unit) (L := Empty) ((retW (((pure a_other : W Order) >>= fun a => (pure true : W Bool)) >>= fun b => if b = true then (((pure a_self : W Order) >>= fun o => (pure o.layers : W (Tup Int))) >>= fun a => ((pure a_other : W Order) >>= fun o => (pure o.layers : W (Tup Int))) >>= fun b => (W.need (shd a ∧ shd b) >>= fun _ => (pure (dtEq a b) : W Bool))) else (pure false : W Bool)) : W (Res Unit Bool Empty)) : W (Res Unit Bool Empty))
def w_l_beneath (a_low : (Tup Int)) (a_high : (Tup Int)) : W Bool := finR (S := Unit) (L := Empty) ((retW ((((((pure a_low : W (Tup Int)) >>= fun t => (pure t.l : W (List Int))) >>= fun xs => ((pure a_high : W (Tup Int)) >>= fun t => (pure t.l : W (List Int))) >>= fun ys => (pure (zipL xs ys) : W (List (T2 Int Int)))) >>= fun xs => W.need (xs.length ≤ sizeLine) >>= fun _ => compW (fun v2_x => ((pure v2_x.a : W Int) >>= fun a => (pure v2_x.b : W Int) >>= fun b => (pure (decide (b < a)) : W Bool))) (fun (v2_x : (T2 Int Int)) => (pure 1 : W Int)) xs) >>= fun xs => (pure (Bor.mk xs) : W (Bor Int))) >>= fun a => (((pure [] : W (List Int)) >>= fun xs => W.need (xs.length ≤ sizeLine) >>= fun _ => (pure xs : W (List Int))) >>= fun xs => (pure (Bor.mk xs) : W (Bor Int))) >>= fun b => (W.need (shd a ∧ shd b) >>= fun _ => (pure (dtEq a b) : W Bool))) : W (Res Unit Bool Empty)) : W (Res Unit Bool Empty))
def w_Order_beneath (a_self : Order) (a_other : Order) : W Bool := finR (S := Unit) (L := Empty) (seqW (S1 := Unit) (dropW ((pure a_self : W Order) >>= fun o => ((pure a_other : W Order) >>= fun a => (pure Nl.mk : W Nl) >>= fun r => (pure (Cn.mk a r) : W (Cn Order Nl))) >>= fun t : (Cn Order Nl) => w_Order_check_length o t.a)) fun v1_s =>
    ((retW (((((((pure a_self : W Order) >>= fun o => (pure o.layers : W (Tup Int))) >>= fun t => (pure t.l : W (List Int))) >>= fun xs => (((pure a_other : W Order) >>= fun o => (pure o.layers : W (Tup Int))) >>= fun t => (pure t.l : W (List Int))) >>= fun ys => (pure (zipL xs ys) : W (List (T2 Int Int)))) >>= fun xs => W.need (xs.length ≤ sizeLine) >>= fun _ => compW (fun _ => (pure true : W Bool)) (fun (v2_x : (T2 Int Int)) => ((pure v2_x.a : W Int) >>= fun a => (pure v2_x.b : W Int) >>= fun b => (pure (decide (a ≤ b)) : W Bool))) xs) >>= fun xs => (pure (Bor.mk xs) : W (Bor Bool))) >>= fun a => (pure (a.l.all id) : W Bool)) : W (Res Unit Bool Empty)) : W (Res Unit Bool Empty)))
def w_l_below_both (a_both : Order) (a_one : Order) (a_two : Order) (a_three : Order) : W Bool := finR (S := Unit) (L := Empty) (seqW (S1 := Bool) (setW (((((pure a_three : W Order) >>= fun o => (pure o.layers : W (Tup Int))) >>= fun a => (((pure a_one : W Order) >>= fun o => (pure o.layers : W (Tup Int))) >>= fun a => (pure Nl.mk : W Nl) >>= fun r => (pure (Cn.mk a r) : W (Cn (Tup Int) Nl))) >>= fun r => (pure (Cn.mk a r) : W (Cn (Tup Int) (Cn (Tup Int) Nl)))) >>= fun t : (Cn (Tup Int) (Cn (Tup Int) Nl)) => w_l_beneath t.a t.r.a) >>= fun b => if b = true then ((((pure a_three : W Order) >>= fun o => (pure o.layers : W (Tup Int))) >>= fun a => (((pure a_two : W Order) >>= fun o => (pure o.layers : W (Tup Int))) >>= fun a => (pure Nl.mk : W Nl) >>= fun r => (pure (Cn.mk a r) : W (Cn (Tup Int) Nl))) >>= fun r => (pure (Cn.mk a r) : W (Cn (Tup Int) (Cn (Tup Int) Nl)))) >>= fun t : (Cn (Tup Int) (Cn (Tup Int) Nl)) => w_l_beneath t.a t.r.a) else (pure false : W Bool))) fun v1_s =>
    ((retW (((((pure a_three : W Order) >>= fun o => ((pure a_both : W Order) >>= fun a => (pure Nl.mk : W Nl) >>= fun r => (pure (Cn.mk a r) : W (Cn Order Nl))) >>= fun t : (Cn Order Nl) => w_Order_beneath o t.a) >>= fun a => ((pure v1_s : W Bool) >>= fun a => (pure Nl.mk : W Nl) >>= fun r => (pure (Cn.mk a r) : W (Cn Bool Nl))) >>= fun r => (pure (Cn.mk a r) : W (Cn Bool (Cn Bool Nl)))) >>= fun t : (Cn Bool (Cn Bool Nl)) => w_l_flag t.a t.r.a) >>= fun b => if b = true then ((((pure a_both : W Order) >>= fun o => ((pure a_one : W Order) >>= fun a => (pure Nl.mk : W Nl) >>= fun r => (pure (Cn.mk a r) : W (Cn Order Nl))) >>= fun t : (Cn Order Nl) => w_Order_beneath o t.a) >>= fun a => (pure true : W Bool) >>= fun b => (pure (decide (a = b)) : W Bool)) >>= fun b => if b = true then (((pure a_both : W Order) >>= fun o => ((pure a_two : W Order) >>= fun a => (pure Nl.mk : W Nl) >>= fun r => (pure (Cn.mk a r) : W (Cn Order Nl))) >>= fun t : (Cn Order Nl) => w_Order_beneath o t.a) >>= fun a => (pure true : W Bool) >>= fun b => (pure (decide (a = b)) : W Bool)) else (pure false : W Bool)) else (pure false : W Bool)) : W (Res Unit Bool Empty)) : W (Res Unit Bool Empty)))
def w_l_drawn (a_bag_here : Bag) (a_one : (Bor Int)) (a_two : (Bor Int)) (a_many : Int) : W (List (T3 Int Int Bool)) := finR (S := Unit) (L := Empty) (seqW (S1 := (List (T3 Int Int Bool))) (setW ((pure [] : W (List (T3 Int Int Bool))) >>= fun xs => W.need (xs.length ≤ sizeLine) >>= fun _ => (pure xs : W (List (T3 Int Int Bool))))) fun v1_s =>
    (seqW (S1 := (List (T3 Int Int Bool))) (((pure a_many : W Int) >>= fun j => W.need (-(2 ^ 62) ≤ j ∧ j < 2 ^ 62) >>= fun _ => (pure (rngL 0 j.toNat) : W (List Int))) >>= fun xs => forW (fun (v2_x : Int) (v3_s : (List (T3 Int Int Bool))) => (seqW (S1 := Int) (setW (((pure a_bag_here : W Bag) >>= fun a => ((pure 7 : W Int) >>= fun a => (pure Nl.mk : W Nl) >>= fun r => (pure (Cn.mk a r) : W (Cn Int Nl))) >>= fun r => (pure (Cn.mk a r) : W (Cn Bag (Cn Int Nl)))) >>= fun t : (Cn Bag (Cn Int Nl)) => w_take t.a t.r.a)) fun v4_s =>
    (seqW (S1 := (List (T3 Int Int Bool))) (ifW ((pure v4_s : W Int) >>= fun a => (pure 3 : W Int) >>= fun b => (pure (decide (a < b)) : W Bool)) (seqW (S1 := (List (T3 Int Int Bool))) ((((pure a_bag_here : W Bag) >>= fun a => ((pure (Bor.mk a_one.l) : W (Bor Int)) >>= fun a => (pure Nl.mk : W Nl) >>= fun r => (pure (Cn.mk a r) : W (Cn (Bor Int) Nl))) >>= fun r => (pure (Cn.mk a r) : W (Cn Bag (Cn (Bor Int) Nl)))) >>= fun t : (Cn Bag (Cn (Bor Int) Nl)) => w_l_toward t.a t.r.a) >>= fun a => W.need ((v3_s).length < sizeLine) >>= fun _ => pure (.nx (v3_s ++ [a]))) fun v5_s =>
    (pure (.nx (v5_s)) : W (Res (List (T3 Int Int Bool)) (List (T3 Int Int Bool)) (List (T3 Int Int Bool))))) (seqW (S1 := (List (T3 Int Int Bool))) (ifW ((pure v4_s : W Int) >>= fun a => (pure 6 : W Int) >>= fun b => (pure (decide (a < b)) : W Bool)) (seqW (S1 := (List (T3 Int Int Bool))) ((((pure a_bag_here : W Bag) >>= fun a => ((pure (Bor.mk a_two.l) : W (Bor Int)) >>= fun a => (pure Nl.mk : W Nl) >>= fun r => (pure (Cn.mk a r) : W (Cn (Bor Int) Nl))) >>= fun r => (pure (Cn.mk a r) : W (Cn Bag (Cn (Bor Int) Nl)))) >>= fun t : (Cn Bag (Cn (Bor Int) Nl)) => w_l_toward t.a t.r.a) >>= fun a => W.need ((v3_s).length < sizeLine) >>= fun _ => pure (.nx (v3_s ++ [a]))) fun v6_s =>
    (pure (.nx (v6_s)) : W (Res (List (T3 Int Int Bool)) (List (T3 Int Int Bool)) (List (T3 Int Int Bool))))) (seqW (S1 := (List (T3 Int Int Bool))) ((((pure a_bag_here : W Bag) >>= fun a => (((pure (Bor.mk a_one.l) : W (Bor Int)) >>= fun a => (pure (a.l.length : Int) : W Int)) >>= fun a => (pure Nl.mk : W Nl) >>= fun r => (pure (Cn.mk a r) : W (Cn Int Nl))) >>= fun r => (pure (Cn.mk a r) : W (Cn Bag (Cn Int Nl)))) >>= fun t : (Cn Bag (Cn Int Nl)) => w_l_any t.a t.r.a) >>= fun a => W.need ((v3_s).length < sizeLine) >>= fun _ => pure (.nx (v3_s ++ [a]))) fun v7_s =>
    (pure (.nx (v7_s)) : W (Res (List (T3 Int Int Bool)) (List (T3 Int Int Bool)) (List (T3 Int Int Bool)))))) fun v8_s =>
    (pure (.nx (v8_s)) : W (Res (List (T3 Int Int Bool)) (List (T3 Int Int Bool)) (List (T3 Int Int Bool)))))) fun v9_s =>
    (pure (.nx (v9_s)) : W (Res (List (T3 Int Int Bool)) (List (T3 Int Int Bool)) (List (T3 Int Int Bool))))))) xs (v1_s)) fun v10_s =>
    ((pure (.rt v10_s) : W (Res Unit (List (T3 Int Int Bool)) Empty)) : W (Res Unit (List (T3 Int Int Bool)) Empty))))
def w_Order_closed (a_self : Order) : W Order := finR (S := Unit) (L := Empty) (seqW (S1 := (List Int)) (setW (((pure a_self : W Order) >>= fun o => (pure o.layers : W (Tup Int))) >>= fun t => W.need (t.l.length ≤ 60) >>= fun _ => (pure (srtU t.l) : W (List Int)))) fun v1_s =>
    (seqW (S1 := (Dct Int)) (setW (((pure v1_s : W (List Int)) >>= fun xs => (pure (enumL xs) : W (List (T2 Int Int)))) >>= fun xs => W.need (xs.length ≤ sizeLine) >>= fun _ => dcW (fun _ => (pure true : W Bool)) (fun (v2_x : (T2 Int Int)) => (pure v2_x.b : W Int)) (fun (v2_x : (T2 Int Int)) => (pure v2_x.a : W Int)) xs [])) fun v3_s =>
    ((retW (((((((pure a_self : W Order) >>= fun o => (pure o.layers : W (Tup Int))) >>= fun t => (pure t.l : W (List Int))) >>= fun xs => W.need (xs.length ≤ sizeLine) >>= fun _ => compW (fun _ => (pure true : W Bool)) (fun (v5_x : Int) => ((pure v3_s : W (Dct Int)) >>= fun d => (pure v5_x : W Int) >>= fun i => W.get (getP d.l i))) xs) >>= fun xs => (pure (Bor.mk xs) : W (Bor Int))) >>= fun a => (pure Nl.mk : W Nl) >>= fun r => (pure (Cn.mk a r) : W (Cn (Bor Int) Nl))) >>= fun t : (Cn (Bor Int) Nl) => w_Order__init t.a) : W (Res Unit Order Empty)) : W (Res Unit Order Empty))))
def w_l_closed (a_order : Order) (a_layers_here : (Bor Int)) (a_sayings : (Bor (T3 Int Int Bool))) : W Bool := finR (S := Unit) (L := Empty) (seqW (S1 := Order) (setW ((pure a_order : W Order) >>= fun o => (pure Nl.mk : W Nl) >>= fun t : Nl => w_Order_closed o)) fun v1_s =>
    (seqW (S1 := (List Int)) (setW (((pure v1_s : W Order) >>= fun o => (pure o.layers : W (Tup Int))) >>= fun t => W.need (t.l.length ≤ 60) >>= fun _ => (pure (srtU t.l) : W (List Int)))) fun v2_s =>
    (seqW (S1 := Unit) (ifW ((((pure v2_s : W (List Int)) >>= fun xs => (pure (Bor.mk xs) : W (Bor Int))) >>= fun a => (((((pure v2_s : W (List Int)) >>= fun xs => (pure (Bor.mk xs) : W (Bor Int))) >>= fun a => (pure (a.l.length : Int) : W Int)) >>= fun j => W.need (0 ≤ j ∧ j ≤ 16777216) >>= fun _ => (pure (rngL 0 j.toNat) : W (List Int))) >>= fun xs => (pure (Bor.mk xs) : W (Bor Int))) >>= fun b => (W.need (shd a ∧ shd b) >>= fun _ => (pure (!dtEq a b) : W Bool))) >>= fun b => if b = true then (pure true : W Bool) else ((((pure v1_s : W Order) >>= fun x => ((pure v1_s : W Order) >>= fun o => (pure Nl.mk : W Nl) >>= fun t : Nl => w_Order_closed o) >>= fun y => w_Order__eq x y) >>= fun b => (pure (!b) : W Bool)) >>= fun b => if b = true then (pure true : W Bool) else (((pure v1_s : W Order) >>= fun o => ((pure a_order : W Order) >>= fun a => (pure Nl.mk : W Nl) >>= fun r => (pure (Cn.mk a r) : W (Cn Order Nl))) >>= fun t : (Cn Order Nl) => w_Order_beneath o t.a) >>= fun a => (pure true : W Bool) >>= fun b => (pure (!decide (a = b)) : W Bool)))) ((retW (pure false : W Bool) : W (Res Unit Bool Empty)) : W (Res Unit Bool Empty)) (pure (.nx ()) : W (Res Unit Bool Empty))) fun v3_s =>
    (seqW (S1 := Unit) (((pure a_sayings.l : W (List (T3 Int Int Bool))) >>= fun xs => (((pure (Bor.mk a_sayings.l) : W (Bor (T3 Int Int Bool))) >>= fun a => (pure Nl.mk : W Nl) >>= fun r => (pure (Cn.mk a r) : W (Cn (Bor (T3 Int Int Bool)) Nl))) >>= fun t : (Cn (Bor (T3 Int Int Bool)) Nl) => w_l_said t.a) >>= fun ys => (pure (zipL xs ys) : W (List (T2 (T3 Int Int Bool) Saying)))) >>= fun xs => forW (fun (v4_x : (T2 (T3 Int Int Bool) Saying)) (v5_s : Unit) => (seqW (S1 := Bool) (setW (((pure (Bor.mk a_layers_here.l) : W (Bor Int)) >>= fun a => ((pure v4_x.a : W (T3 Int Int Bool)) >>= fun a => (pure Nl.mk : W Nl) >>= fun r => (pure (Cn.mk a r) : W (Cn (T3 Int Int Bool) Nl))) >>= fun r => (pure (Cn.mk a r) : W (Cn (Bor Int) (Cn (T3 Int Int Bool) Nl)))) >>= fun t : (Cn (Bor Int) (Cn (T3 Int Int Bool) Nl)) => w_l_keeps t.a t.r.a)) fun v6_s =>
    (seqW (S1 := Unit) (ifW ((((((pure a_order : W Order) >>= fun o => ((pure v4_x.b : W Saying) >>= fun a => (pure Nl.mk : W Nl) >>= fun r => (pure (Cn.mk a r) : W (Cn Saying Nl))) >>= fun t : (Cn Saying Nl) => w_Order_keeps o t.a) >>= fun a => ((pure v6_s : W Bool) >>= fun a => (pure Nl.mk : W Nl) >>= fun r => (pure (Cn.mk a r) : W (Cn Bool Nl))) >>= fun r => (pure (Cn.mk a r) : W (Cn Bool (Cn Bool Nl)))) >>= fun t : (Cn Bool (Cn Bool Nl)) => w_l_flag t.a t.r.a) >>= fun b => (pure (!b) : W Bool)) >>= fun b => if b = true then (pure true : W Bool) else (((((pure v1_s : W Order) >>= fun o => ((pure v4_x.b : W Saying) >>= fun a => (pure Nl.mk : W Nl) >>= fun r => (pure (Cn.mk a r) : W (Cn Saying Nl))) >>= fun t : (Cn Saying Nl) => w_Order_keeps o t.a) >>= fun a => ((pure v6_s : W Bool) >>= fun a => (pure Nl.mk : W Nl) >>= fun r => (pure (Cn.mk a r) : W (Cn Bool Nl))) >>= fun r => (pure (Cn.mk a r) : W (Cn Bool (Cn Bool Nl)))) >>= fun t : (Cn Bool (Cn Bool Nl)) => w_l_flag t.a t.r.a) >>= fun b => (pure (!b) : W Bool))) ((retW (pure false : W Bool) : W (Res Unit Bool Unit)) : W (Res Unit Bool Unit)) (pure (.nx ()) : W (Res Unit Bool Unit))) fun v7_s =>
    (pure (.nx ()) : W (Res Unit Bool Unit))))) xs ()) fun v8_s =>
    ((retW (pure true : W Bool) : W (Res Unit Bool Empty)) : W (Res Unit Bool Empty))))))
def w_check_fitting (a_days : Int) (a_sayings : (Tup Saying)) : W Unit := finN (S := Unit) (L := Empty) (seqW (S1 := Unit) (((pure a_sayings : W (Tup Saying)) >>= fun t => (pure t.l : W (List Saying))) >>= fun xs => forW (fun (v1_x : Saying) (v2_s : Unit) => (seqW (S1 := Unit) (ifW (((((pure v1_x : W Saying) >>= fun o => (pure o.«where» : W Int)) >>= fun a => ((pure v1_x : W Saying) >>= fun o => (pure o.«then» : W Int)) >>= fun b => (pure (Builtin.bitOr a b) : W Int)) >>= fun a => (pure a_days : W Int) >>= fun b => (W.need (0 ≤ b) >>= fun _ => (pure (a / 2 ^ b.toNat) : W Int))) >>= fun a => (pure (Tr.tr a) : W Bool)) ((W.thr ⟨112, []⟩ : W (Res Unit Unit Unit)) : W (Res Unit Unit Unit)) (pure (.nx ()) : W (Res Unit Unit Unit))) fun v3_s =>
    (pure (.nx ()) : W (Res Unit Unit Unit)))) xs ()) fun v4_s =>
    (pure (.nx ()) : W (Res Unit Unit Empty)))
def w_check_days (a_marks : Marks) (a_sayings : (Tup Saying)) : W Unit := finN (S := Unit) (L := Empty) (seqW (S1 := Unit) (dropW ((((pure a_marks : W Marks) >>= fun o => (pure o.days : W Int)) >>= fun a => ((pure a_sayings : W (Tup Saying)) >>= fun a => (pure Nl.mk : W Nl) >>= fun r => (pure (Cn.mk a r) : W (Cn (Tup Saying) Nl))) >>= fun r => (pure (Cn.mk a r) : W (Cn Int (Cn (Tup Saying) Nl)))) >>= fun t : (Cn Int (Cn (Tup Saying) Nl)) => w_check_fitting t.a t.r.a)) fun v1_s =>
    (pure (.nx ()) : W (Res Unit Unit Empty)))
def w_stay (a_sayings : (Tup Saying)) (a_room : Int) (a_placed : Int) (a_reasons : (List (Option Int))) (a_heights : (List Int)) : W (Cn Int (Cn (List (Option Int)) (Cn (List Int) Nl))) := finR (S := Unit) (L := Empty) (seqW (S1 := Int) (setW (pure a_room : W Int)) fun v1_s =>
    (seqW (S1 := Int) (setW (pure 0 : W Int)) fun v2_s =>
    (seqW (S1 := Bool) (setW (pure true : W Bool)) fun v3_s =>
    (seqW (S1 := (List (Option Int)) × (List Int) × Int × Int × Bool) (whileW (fun v4_s : (List (Option Int)) × (List Int) × Int × Int × Bool => (pure v4_s.2.2.2.2 : W Bool)) (fun v4_s : (List (Option Int)) × (List Int) × Int × Int × Bool => (seqW (S1 := Bool) (setW (pure false : W Bool)) fun v5_s =>
    (seqW (S1 := (List (Option Int)) × (List Int) × Int × Int × Bool) ((((pure a_sayings : W (Tup Saying)) >>= fun t => (pure t.l : W (List Saying))) >>= fun xs => (pure (enumL xs) : W (List (T2 Int Saying)))) >>= fun xs => forW (fun (v6_x : (T2 Int Saying)) (v7_s : (List (Option Int)) × (List Int) × Int × Int × Bool) => (seqW (S1 := Int) (setW (((pure v6_x.b : W Saying) >>= fun o => (pure o.high : W Int)) >>= fun a => (pure v7_s.2.2.1 : W Int) >>= fun b => (pure (Builtin.bitAnd a b) : W Int))) fun v8_s =>
    (seqW (S1 := Int) (setW (ifW (((pure v6_x.b : W Saying) >>= fun o => (pure o.step : W Int)) >>= fun a => (pure 1 : W Int) >>= fun b => (pure (pyEq a b) : W Bool)) (pure a_placed : W Int) (pure v7_s.2.2.1 : W Int))) fun v9_s =>
    (seqW (S1 := Unit) (ifW (((pure v8_s : W Int) >>= fun a => (pure 0 : W Int) >>= fun b => (pure (pyEq a b) : W Bool)) >>= fun b => if b = true then (pure true : W Bool) else ((((pure v6_x.b : W Saying) >>= fun o => (pure o.low : W Int)) >>= fun a => (pure v9_s : W Int) >>= fun b => (pure (Builtin.bitAnd a b) : W Int)) >>= fun a => (pure (Tr.tr a) : W Bool))) ((pure (.ct (v7_s.1, v7_s.2.1, v7_s.2.2.1, v7_s.2.2.2.1, v7_s.2.2.2.2)) : W (Res Unit (Cn Int (Cn (List (Option Int)) (Cn (List Int) Nl))) ((List (Option Int)) × (List Int) × Int × Int × Bool))) : W (Res Unit (Cn Int (Cn (List (Option Int)) (Cn (List Int) Nl))) ((List (Option Int)) × (List Int) × Int × Int × Bool))) (pure (.nx ()) : W (Res Unit (Cn Int (Cn (List (Option Int)) (Cn (List Int) Nl))) ((List (Option Int)) × (List Int) × Int × Int × Bool)))) fun v10_s =>
    (seqW (S1 := Int) ((pure 1 : W Int) >>= fun b => pure (.nx (v7_s.2.2.2.1 + b))) fun v11_s =>
    (seqW (S1 := (List (Option Int)) × (List Int)) (((((pure v8_s : W Int) >>= fun a => (pure Nl.mk : W Nl) >>= fun r => (pure (Cn.mk a r) : W (Cn Int Nl))) >>= fun t : (Cn Int Nl) => w_days_in t.a) >>= fun t => (pure t.l : W (List Int))) >>= fun xs => forW (fun (v12_x : Int) (v13_s : (List (Option Int)) × (List Int)) => (seqW (S1 := (List (Option Int))) (((pure v6_x.a : W Int) >>= fun a => (pure (some a) : W (Option Int))) >>= fun a => (pure v12_x : W Int) >>= fun k => W.need (ixN (v13_s.1).length k).isSome >>= fun _ => pure (.nx ((v13_s.1).set ((ixN (v13_s.1).length k).getD 0) a))) fun v14_s =>
    (seqW (S1 := (List Int)) ((pure v11_s : W Int) >>= fun a => (pure v12_x : W Int) >>= fun k => W.need (ixN (v13_s.2).length k).isSome >>= fun _ => pure (.nx ((v13_s.2).set ((ixN (v13_s.2).length k).getD 0) a))) fun v15_s =>
    (pure (.nx (v14_s, v15_s)) : W (Res ((List (Option Int)) × (List Int)) (Cn Int (Cn (List (Option Int)) (Cn (List Int) Nl))) ((List (Option Int)) × (List Int))))))) xs (v7_s.1, v7_s.2.1)) fun v16_s =>
    (seqW (S1 := Int) (setW ((pure v7_s.2.2.1 : W Int) >>= fun a => ((pure v8_s : W Int) >>= fun a => (pure (Builtin.bitNot a) : W Int)) >>= fun b => (pure (Builtin.bitAnd a b) : W Int))) fun v17_s =>
    (seqW (S1 := Bool) (setW (pure true : W Bool)) fun v18_s =>
    (pure (.nx (v16_s.1, v16_s.2, v17_s, v11_s, v18_s)) : W (Res ((List (Option Int)) × (List Int) × Int × Int × Bool) (Cn Int (Cn (List (Option Int)) (Cn (List Int) Nl))) ((List (Option Int)) × (List Int) × Int × Int × Bool))))))))))) xs (v4_s.1, v4_s.2.1, v4_s.2.2.1, v4_s.2.2.2.1, v5_s)) fun v19_s =>
    (pure (.nx (v19_s.1, v19_s.2.1, v19_s.2.2.1, v19_s.2.2.2.1, v19_s.2.2.2.2)) : W (Res ((List (Option Int)) × (List Int) × Int × Int × Bool) (Cn Int (Cn (List (Option Int)) (Cn (List Int) Nl))) ((List (Option Int)) × (List Int) × Int × Int × Bool)))))) (a_reasons, a_heights, v1_s, v2_s, v3_s)) fun v20_s =>
    ((retW ((pure v20_s.2.2.1 : W Int) >>= fun a => (pure (Cn.mk a (Cn.mk v20_s.1 (Cn.mk v20_s.2.1 Nl.mk))) : W (Cn Int (Cn (List (Option Int)) (Cn (List Int) Nl))))) : W (Res Unit (Cn Int (Cn (List (Option Int)) (Cn (List Int) Nl))) Empty)) : W (Res Unit (Cn Int (Cn (List (Option Int)) (Cn (List Int) Nl))) Empty))))))
def w_layer_behind (a_layer : (Option Int)) (a_start : (Bor Int)) (a_grown : Bool) : W (Option Int) := finR (S := Unit) (L := Empty) (seqW (S1 := Unit) (ifW (pure a_grown : W Bool) ((retW ((((pure a_layer : W (Option Int)) >>= fun o => W.get o) >>= fun a => (pure 1 : W Int) >>= fun b => (pure (a + b) : W Int)) >>= fun a => (pure (some a) : W (Option Int))) : W (Res Unit (Option Int) Empty)) : W (Res Unit (Option Int) Empty)) (pure (.nx ()) : W (Res Unit (Option Int) Empty))) fun v1_s =>
    ((retW (((((pure a_start.l : W (List Int)) >>= fun xs => W.need (xs.length ≤ sizeLine) >>= fun _ => compW (fun v2_x => ((pure v2_x : W Int) >>= fun a => ((pure a_layer : W (Option Int)) >>= fun o => W.get o) >>= fun b => (pure (decide (b < a)) : W Bool))) (fun (v2_x : Int) => (pure v2_x : W Int)) xs) >>= fun xs => (pure (Bor.mk xs) : W (Bor Int))) >>= fun a => (pure Nl.mk : W Nl) >>= fun r => (pure (Cn.mk a r) : W (Cn (Bor Int) Nl))) >>= fun t => ((pure () : W Unit) >>= fun a => (pure Nl.mk : W Nl) >>= fun r => (pure (Cn.mk a r) : W (Cn Unit Nl))) >>= fun _ => (pure (minO t.a.l) : W (Option Int))) : W (Res Unit (Option Int) Empty)) : W (Res Unit (Option Int) Empty)))
def w_climb (a_sayings : (Tup Saying)) (a_start : (Bor Int)) : W (T3 (Tup (Option Int)) (Tup (Option Int)) (Tup Int)) := finR (S := Unit) (L := Empty) (seqW (S1 := (List (Option Int))) (setW ((((((pure () : W Unit) >>= fun _ => (pure none : W (Option Int))) >>= fun a => (pure [] : W (List (Option Int))) >>= fun r => (pure (a :: r) : W (List (Option Int)))) >>= fun xs => W.need (xs.length ≤ sizeLine) >>= fun _ => (pure xs : W (List (Option Int)))) >>= fun xs => (pure (Bor.mk xs) : W (Bor (Option Int)))) >>= fun a => ((pure (Bor.mk a_start.l) : W (Bor Int)) >>= fun a => (pure (a.l.length : Int) : W Int)) >>= fun i => W.need (-(2 ^ 63) ≤ i ∧ i < 2 ^ 63 ∧ a.l.length * i.toNat ≤ sizeLine) >>= fun _ => (pure (List.replicate i.toNat a.l).flatten : W (List (Option Int))))) fun v1_s =>
    (seqW (S1 := (List (Option Int))) (setW ((((((pure () : W Unit) >>= fun _ => (pure none : W (Option Int))) >>= fun a => (pure [] : W (List (Option Int))) >>= fun r => (pure (a :: r) : W (List (Option Int)))) >>= fun xs => W.need (xs.length ≤ sizeLine) >>= fun _ => (pure xs : W (List (Option Int)))) >>= fun xs => (pure (Bor.mk xs) : W (Bor (Option Int)))) >>= fun a => ((pure (Bor.mk a_start.l) : W (Bor Int)) >>= fun a => (pure (a.l.length : Int) : W Int)) >>= fun i => W.need (-(2 ^ 63) ≤ i ∧ i < 2 ^ 63 ∧ a.l.length * i.toNat ≤ sizeLine) >>= fun _ => (pure (List.replicate i.toNat a.l).flatten : W (List (Option Int))))) fun v2_s =>
    (seqW (S1 := (List Int)) (setW (((((pure 0 : W Int) >>= fun a => (pure [] : W (List Int)) >>= fun r => (pure (a :: r) : W (List Int))) >>= fun xs => W.need (xs.length ≤ sizeLine) >>= fun _ => (pure xs : W (List Int))) >>= fun xs => (pure (Bor.mk xs) : W (Bor Int))) >>= fun a => ((pure (Bor.mk a_start.l) : W (Bor Int)) >>= fun a => (pure (a.l.length : Int) : W Int)) >>= fun i => W.need (-(2 ^ 63) ≤ i ∧ i < 2 ^ 63 ∧ a.l.length * i.toNat ≤ sizeLine) >>= fun _ => (pure (List.replicate i.toNat a.l).flatten : W (List Int)))) fun v3_s =>
    (seqW (S1 := Int) (setW (pure 0 : W Int)) fun v4_s =>
    (seqW (S1 := (Option Int)) (setW (((pure (Bor.mk a_start.l) : W (Bor Int)) >>= fun a => W.need (a.l ≠ []) >>= fun _ => (pure (minL a.l) : W Int)) >>= fun a => (pure (some a) : W (Option Int)))) fun v5_s =>
    (seqW (S1 := (List (Option Int)) × (List (Option Int)) × (List Int) × Int × (Option Int)) (whileW (fun v6_s : (List (Option Int)) × (List (Option Int)) × (List Int) × Int × (Option Int) => ((pure v6_s.2.2.2.2 : W (Option Int)) >>= fun a => (pure a.isSome : W Bool))) (fun v6_s : (List (Option Int)) × (List (Option Int)) × (List Int) × Int × (Option Int) => (seqW (S1 := Int) (setW ((((((pure a_start.l : W (List Int)) >>= fun xs => (pure (enumL xs) : W (List (T2 Int Int)))) >>= fun xs => W.need (xs.length ≤ sizeLine) >>= fun _ => compW (fun v8_x => ((pure v8_x.b : W Int) >>= fun a => ((pure v6_s.2.2.2.2 : W (Option Int)) >>= fun o => W.get o) >>= fun b => (pure (decide (a ≤ b)) : W Bool))) (fun (v8_x : (T2 Int Int)) => (pure v8_x.a : W Int)) xs) >>= fun xs => (pure (Bor.mk xs) : W (Bor Int))) >>= fun a => (pure Nl.mk : W Nl) >>= fun r => (pure (Cn.mk a r) : W (Cn (Bor Int) Nl))) >>= fun t : (Cn (Bor Int) Nl) => w_set_of t.a)) fun v9_s =>
    (seqW (S1 := (Cn Int (Cn (List (Option Int)) (Cn (List Int) Nl)))) (setW (((pure a_sayings : W (Tup Saying)) >>= fun a => ((pure v9_s : W Int) >>= fun a => ((pure v6_s.2.2.2.1 : W Int) >>= fun a => (pure Nl.mk : W Nl) >>= fun r => (pure (Cn.mk a r) : W (Cn Int Nl))) >>= fun r => (pure (Cn.mk a r) : W (Cn Int (Cn Int Nl)))) >>= fun r => (pure (Cn.mk a r) : W (Cn (Tup Saying) (Cn Int (Cn Int Nl))))) >>= fun t : (Cn (Tup Saying) (Cn Int (Cn Int Nl))) => (w_stay t.a t.r.a t.r.r.a v6_s.2.1 v6_s.2.2.1).q)) fun v10_s =>
    (seqW (S1 := (List (Option Int))) ((((((pure v10_s.a : W Int) >>= fun a => ((pure v6_s.2.2.2.1 : W Int) >>= fun a => (pure (Builtin.bitNot a) : W Int)) >>= fun b => (pure (Builtin.bitAnd a b) : W Int)) >>= fun a => (pure Nl.mk : W Nl) >>= fun r => (pure (Cn.mk a r) : W (Cn Int Nl))) >>= fun t : (Cn Int Nl) => w_days_in t.a) >>= fun t => (pure t.l : W (List Int))) >>= fun xs => forW (fun (v11_x : Int) (v12_s : (List (Option Int))) => (seqW (S1 := (List (Option Int))) ((pure v6_s.2.2.2.2 : W (Option Int)) >>= fun a => (pure v11_x : W Int) >>= fun k => W.need (ixN (v12_s).length k).isSome >>= fun _ => pure (.nx ((v12_s).set ((ixN (v12_s).length k).getD 0) a))) fun v13_s =>
    (pure (.nx (v13_s)) : W (Res (List (Option Int)) (T3 (Tup (Option Int)) (Tup (Option Int)) (Tup Int)) (List (Option Int)))))) xs (v6_s.1)) fun v14_s =>
    (seqW (S1 := (Option Int)) (setW (((pure v6_s.2.2.2.2 : W (Option Int)) >>= fun a => ((pure (Bor.mk a_start.l) : W (Bor Int)) >>= fun a => (((pure v10_s.a : W Int) >>= fun a => (pure v6_s.2.2.2.1 : W Int) >>= fun b => (pure (!pyEq a b) : W Bool)) >>= fun a => (pure Nl.mk : W Nl) >>= fun r => (pure (Cn.mk a r) : W (Cn Bool Nl))) >>= fun r => (pure (Cn.mk a r) : W (Cn (Bor Int) (Cn Bool Nl)))) >>= fun r => (pure (Cn.mk a r) : W (Cn (Option Int) (Cn (Bor Int) (Cn Bool Nl))))) >>= fun t : (Cn (Option Int) (Cn (Bor Int) (Cn Bool Nl))) => w_layer_behind t.a t.r.a t.r.r.a)) fun v15_s =>
    (seqW (S1 := Int) (setW (pure v10_s.a : W Int)) fun v16_s =>
    (pure (.nx (v14_s, v10_s.r.a, v10_s.r.r.a, v16_s, v15_s)) : W (Res ((List (Option Int)) × (List (Option Int)) × (List Int) × Int × (Option Int)) (T3 (Tup (Option Int)) (Tup (Option Int)) (Tup Int)) ((List (Option Int)) × (List (Option Int)) × (List Int) × Int × (Option Int)))))))))) (v1_s, v2_s, v3_s, v4_s, v5_s)) fun v17_s =>
    ((retW ((((pure v17_s.1 : W (List (Option Int))) >>= fun xs => (pure (Bor.mk xs) : W (Bor (Option Int)))) >>= fun a => (pure (Tup.mk a.l) : W (Tup (Option Int)))) >>= fun a => (((pure v17_s.2.1 : W (List (Option Int))) >>= fun xs => (pure (Bor.mk xs) : W (Bor (Option Int)))) >>= fun a => (pure (Tup.mk a.l) : W (Tup (Option Int)))) >>= fun b => (((pure v17_s.2.2.1 : W (List Int)) >>= fun xs => (pure (Bor.mk xs) : W (Bor Int))) >>= fun a => (pure (Tup.mk a.l) : W (Tup Int))) >>= fun c => (pure (T3.mk a b c) : W (T3 (Tup (Option Int)) (Tup (Option Int)) (Tup Int)))) : W (Res Unit (T3 (Tup (Option Int)) (Tup (Option Int)) (Tup Int)) Empty)) : W (Res Unit (T3 (Tup (Option Int)) (Tup (Option Int)) (Tup Int)) Empty))))))))
def w_check_layers_Ti (a_layers : (Tup Int)) : W Unit := finN (S := Unit) (L := Empty) (seqW (S1 := Unit) (ifW ((((pure a_layers : W (Tup Int)) >>= fun a => (pure true : W Bool)) >>= fun b => (pure (!b) : W Bool)) >>= fun b => if b = true then (pure true : W Bool) else (((pure a_layers : W (Tup Int)) >>= fun a => (pure (a.l.length : Int) : W Int)) >>= fun a => (pure c_DAY_COUNTS : W (Tup Int)) >>= fun b => (pure (!inF a b.l) : W Bool))) (((pure "count" : W Str) >>= fun a => W.thr ⟨115, [("what", ToD.d a)]⟩ : W (Res Unit Unit Empty)) : W (Res Unit Unit Empty)) (pure (.nx ()) : W (Res Unit Unit Empty))) fun v1_s =>
    (seqW (S1 := Unit) (((pure a_layers : W (Tup Int)) >>= fun t => (pure t.l : W (List Int))) >>= fun xs => forW (fun (v2_x : Int) (v3_s : Unit) => (seqW (S1 := Unit) (ifW ((((pure v2_x : W Int) >>= fun a => ((pure 0 : W Int) >>= fun a => ((pure 1000000000000000000000000000000 : W Int) >>= fun a => (pure Nl.mk : W Nl) >>= fun r => (pure (Cn.mk a r) : W (Cn Int Nl))) >>= fun r => (pure (Cn.mk a r) : W (Cn Int (Cn Int Nl)))) >>= fun r => (pure (Cn.mk a r) : W (Cn Int (Cn Int (Cn Int Nl))))) >>= fun t : (Cn Int (Cn Int (Cn Int Nl))) => w_is_whole t.a t.r.a t.r.r.a) >>= fun b => (pure (!b) : W Bool)) (((pure "number" : W Str) >>= fun a => W.thr ⟨115, [("what", ToD.d a)]⟩ : W (Res Unit Unit Unit)) : W (Res Unit Unit Unit)) (pure (.nx ()) : W (Res Unit Unit Unit))) fun v4_s =>
    (pure (.nx ()) : W (Res Unit Unit Unit)))) xs ()) fun v5_s =>
    (pure (.nx ()) : W (Res Unit Unit Empty))))
def wb_Order__init_Ti (a_layers : (Tup Int)) : W (Res Order Unit Empty) := (seqW (S1 := Unit) (dropW (((pure a_layers : W (Tup Int)) >>= fun a => (pure Nl.mk : W Nl) >>= fun r => (pure (Cn.mk a r) : W (Cn (Tup Int) Nl))) >>= fun t : (Cn (Tup Int) Nl) => w_check_layers_Ti t.a)) fun v1_s =>
    (seqW (S1 := Unit) (ifW ((pure 0 : W Int) >>= fun a => (pure a_layers : W (Tup Int)) >>= fun b => (pure (!inF a b.l) : W Bool)) (((pure "bottom" : W Str) >>= fun a => W.thr ⟨115, [("what", ToD.d a)]⟩ : W (Res Unit Unit Empty)) : W (Res Unit Unit Empty)) (pure (.nx ()) : W (Res Unit Unit Empty))) fun v2_s =>
    (seqW (S1 := (Tup Int)) (setW ((pure a_layers : W (Tup Int)) >>= fun a => (pure a : W (Tup Int)))) fun v3_s =>
    (pure (.nx ((Order.mk v3_s : Order))) : W (Res Order Unit Empty)))))
def w_Order__init_Ti (a_layers : (Tup Int)) : W Order := finI (wb_Order__init_Ti a_layers)
def wb_Lifted__init (a_order : Order) (a_reasons : (Tup (Option Int))) (a_heights : (Tup Int)) : W (Res Lifted Unit Empty) := (seqW (S1 := Order) (setW (pure a_order : W Order)) fun v1_s =>
    (seqW (S1 := (Tup (Option Int))) (setW (pure a_reasons : W (Tup (Option Int)))) fun v2_s =>
    (seqW (S1 := (Tup Int)) (setW (pure a_heights : W (Tup Int))) fun v3_s =>
    (pure (.nx ((Lifted.mk v1_s v2_s v3_s : Lifted))) : W (Res Lifted Unit Empty)))))
def w_Lifted__init (a_order : Order) (a_reasons : (Tup (Option Int))) (a_heights : (Tup Int)) : W Lifted := finI (wb_Lifted__init a_order a_reasons a_heights)
def wb_Stuck__init (a_days : Int) (a_reasons : (Tup (Option Int))) (a_heights : (Tup Int)) : W (Res Stuck Unit Empty) := (seqW (S1 := Int) (setW (pure a_days : W Int)) fun v1_s =>
    (seqW (S1 := (Tup (Option Int))) (setW (pure a_reasons : W (Tup (Option Int)))) fun v2_s =>
    (seqW (S1 := (Tup Int)) (setW (pure a_heights : W (Tup Int))) fun v3_s =>
    (pure (.nx ((Stuck.mk v1_s v2_s v3_s : Stuck))) : W (Res Stuck Unit Empty)))))
def w_Stuck__init (a_days : Int) (a_reasons : (Tup (Option Int))) (a_heights : (Tup Int)) : W Stuck := finI (wb_Stuck__init a_days a_reasons a_heights)
def w_lift (a_book : Book) (a_further : (Tup Saying)) : W (Sm2 Lifted Stuck) := finR (S := Unit) (L := Empty) (seqW (S1 := Unit) (dropW ((((pure a_book : W Book) >>= fun o => (pure o.marks : W Marks)) >>= fun a => ((pure a_further : W (Tup Saying)) >>= fun a => (pure Nl.mk : W Nl) >>= fun r => (pure (Cn.mk a r) : W (Cn (Tup Saying) Nl))) >>= fun r => (pure (Cn.mk a r) : W (Cn Marks (Cn (Tup Saying) Nl)))) >>= fun t : (Cn Marks (Cn (Tup Saying) Nl)) => w_check_days t.a t.r.a)) fun v1_s =>
    (seqW (S1 := (T3 (Tup (Option Int)) (Tup (Option Int)) (Tup Int))) (setW (((((pure a_book : W Book) >>= fun o => (pure o.sayings : W (Tup Saying))) >>= fun a => (pure a_further : W (Tup Saying)) >>= fun b => W.need (a.l.length + b.l.length ≤ sizeLine) >>= fun _ => (pure (Tup.mk (a.l ++ b.l)) : W (Tup Saying))) >>= fun a => (((((((pure 0 : W Int) >>= fun a => (pure [] : W (List Int)) >>= fun r => (pure (a :: r) : W (List Int))) >>= fun xs => W.need (xs.length ≤ sizeLine) >>= fun _ => (pure xs : W (List Int))) >>= fun xs => (pure (Bor.mk xs) : W (Bor Int))) >>= fun a => (((pure a_book : W Book) >>= fun o => (pure o.marks : W Marks)) >>= fun o => (pure o.days : W Int)) >>= fun i => W.need (-(2 ^ 63) ≤ i ∧ i < 2 ^ 63 ∧ a.l.length * i.toNat ≤ sizeLine) >>= fun _ => (pure (List.replicate i.toNat a.l).flatten : W (List Int))) >>= fun xs => (pure (Bor.mk xs) : W (Bor Int))) >>= fun a => (pure Nl.mk : W Nl) >>= fun r => (pure (Cn.mk a r) : W (Cn (Bor Int) Nl))) >>= fun r => (pure (Cn.mk a r) : W (Cn (Tup Saying) (Cn (Bor Int) Nl)))) >>= fun t : (Cn (Tup Saying) (Cn (Bor Int) Nl)) => w_climb t.a t.r.a)) fun v2_s =>
    (seqW (S1 := Int) (setW (((((((pure v2_s.a : W (Tup (Option Int))) >>= fun t => (pure t.l : W (List (Option Int)))) >>= fun xs => (pure (enumL xs) : W (List (T2 Int (Option Int))))) >>= fun xs => W.need (xs.length ≤ sizeLine) >>= fun _ => compW (fun v4_x => ((pure v4_x.b : W (Option Int)) >>= fun a => (pure a.isNone : W Bool))) (fun (v4_x : (T2 Int (Option Int))) => (pure v4_x.a : W Int)) xs) >>= fun xs => (pure (Bor.mk xs) : W (Bor Int))) >>= fun a => (pure Nl.mk : W Nl) >>= fun r => (pure (Cn.mk a r) : W (Cn (Bor Int) Nl))) >>= fun t : (Cn (Bor Int) Nl) => w_set_of t.a)) fun v5_s =>
    (seqW (S1 := Unit) (ifW ((pure v5_s : W Int) >>= fun a => (pure 0 : W Int) >>= fun b => (pure (pyEq a b) : W Bool)) ((retW (((((((pure v2_s.a : W (Tup (Option Int))) >>= fun t => W.get (allSome t.l) >>= fun l => (pure (Tup.mk l) : W (Tup Int))) >>= fun a => (pure Nl.mk : W Nl) >>= fun r => (pure (Cn.mk a r) : W (Cn (Tup Int) Nl))) >>= fun t : (Cn (Tup Int) Nl) => w_Order__init_Ti t.a) >>= fun a => ((pure v2_s.b : W (Tup (Option Int))) >>= fun a => ((pure v2_s.c : W (Tup Int)) >>= fun a => (pure Nl.mk : W Nl) >>= fun r => (pure (Cn.mk a r) : W (Cn (Tup Int) Nl))) >>= fun r => (pure (Cn.mk a r) : W (Cn (Tup (Option Int)) (Cn (Tup Int) Nl)))) >>= fun r => (pure (Cn.mk a r) : W (Cn Order (Cn (Tup (Option Int)) (Cn (Tup Int) Nl))))) >>= fun t : (Cn Order (Cn (Tup (Option Int)) (Cn (Tup Int) Nl))) => w_Lifted__init t.a t.r.a t.r.r.a) >>= fun a => (pure (Sm2.a a) : W (Sm2 Lifted Stuck))) : W (Res Unit (Sm2 Lifted Stuck) Empty)) : W (Res Unit (Sm2 Lifted Stuck) Empty)) (pure (.nx ()) : W (Res Unit (Sm2 Lifted Stuck) Empty))) fun v6_s =>
    (seqW (S1 := (List (Option Int))) (setW ((((pure v2_s.a : W (Tup (Option Int))) >>= fun t => (pure t.l : W (List (Option Int)))) >>= fun xs => ((pure v2_s.b : W (Tup (Option Int))) >>= fun t => (pure t.l : W (List (Option Int)))) >>= fun ys => (pure (zipL xs ys) : W (List (T2 (Option Int) (Option Int))))) >>= fun xs => W.need (xs.length ≤ sizeLine) >>= fun _ => compW (fun _ => (pure true : W Bool)) (fun (v7_x : (T2 (Option Int) (Option Int))) => (ifW ((pure v7_x.a : W (Option Int)) >>= fun a => (pure a.isNone : W Bool)) (pure v7_x.b : W (Option Int)) ((pure () : W Unit) >>= fun _ => (pure none : W (Option Int))))) xs)) fun v8_s =>
    ((retW ((((pure v5_s : W Int) >>= fun a => ((((pure v8_s : W (List (Option Int))) >>= fun xs => (pure (Bor.mk xs) : W (Bor (Option Int)))) >>= fun a => (pure (Tup.mk a.l) : W (Tup (Option Int)))) >>= fun a => ((pure v2_s.c : W (Tup Int)) >>= fun a => (pure Nl.mk : W Nl) >>= fun r => (pure (Cn.mk a r) : W (Cn (Tup Int) Nl))) >>= fun r => (pure (Cn.mk a r) : W (Cn (Tup (Option Int)) (Cn (Tup Int) Nl)))) >>= fun r => (pure (Cn.mk a r) : W (Cn Int (Cn (Tup (Option Int)) (Cn (Tup Int) Nl))))) >>= fun t : (Cn Int (Cn (Tup (Option Int)) (Cn (Tup Int) Nl))) => w_Stuck__init t.a t.r.a t.r.r.a) >>= fun a => (pure (Sm2.b a) : W (Sm2 Lifted Stuck))) : W (Res Unit (Sm2 Lifted Stuck) Empty)) : W (Res Unit (Sm2 Lifted Stuck) Empty)))))))
def w_law_Scr (a_script : Scr) : W Bool := finR (S := Unit) (L := Empty) (seqW (S1 := Bag) (setW (((pure a_script : W Scr) >>= fun a => ((pure 0 : W Int) >>= fun a => (pure Nl.mk : W Nl) >>= fun r => (pure (Cn.mk a r) : W (Cn Int Nl))) >>= fun r => (pure (Cn.mk a r) : W (Cn Scr (Cn Int Nl)))) >>= fun t : (Cn Scr (Cn Int Nl)) => w_bag t.a t.r.a)) fun v1_s =>
    (seqW (S1 := Int) (setW (((pure v1_s : W Bag) >>= fun a => (((((pure 2 : W Int) >>= fun a => ((pure 4 : W Int) >>= fun a => ((pure 4 : W Int) >>= fun a => ((pure 8 : W Int) >>= fun a => ((pure 16 : W Int) >>= fun a => (pure [] : W (List Int)) >>= fun r => (pure (a :: r) : W (List Int))) >>= fun r => (pure (a :: r) : W (List Int))) >>= fun r => (pure (a :: r) : W (List Int))) >>= fun r => (pure (a :: r) : W (List Int))) >>= fun r => (pure (a :: r) : W (List Int))) >>= fun xs => W.need (xs.length ≤ sizeLine) >>= fun _ => (pure xs : W (List Int))) >>= fun xs => (pure (Bor.mk xs) : W (Bor Int))) >>= fun a => (pure Nl.mk : W Nl) >>= fun r => (pure (Cn.mk a r) : W (Cn (Bor Int) Nl))) >>= fun r => (pure (Cn.mk a r) : W (Cn Bag (Cn (Bor Int) Nl)))) >>= fun t : (Cn Bag (Cn (Bor Int) Nl)) => w_l_of t.a t.r.a)) fun v2_s =>
    (seqW (S1 := (List (List Int))) (setW (((((pure 1 : W Int) >>= fun a => ((pure 2 : W Int) >>= fun a => ((pure 3 : W Int) >>= fun a => (pure [] : W (List Int)) >>= fun r => (pure (a :: r) : W (List Int))) >>= fun r => (pure (a :: r) : W (List Int))) >>= fun r => (pure (a :: r) : W (List Int))) >>= fun xs => W.need (xs.length ≤ sizeLine) >>= fun _ => (pure (Tup.mk xs) : W (Tup Int))) >>= fun t => (pure t.l : W (List Int))) >>= fun xs => W.need (xs.length ≤ sizeLine) >>= fun _ => compW (fun _ => (pure true : W Bool)) (fun (v3_x : Int) => (((((pure a_script : W Scr) >>= fun a => ((pure v3_x : W Int) >>= fun a => (pure Nl.mk : W Nl) >>= fun r => (pure (Cn.mk a r) : W (Cn Int Nl))) >>= fun r => (pure (Cn.mk a r) : W (Cn Scr (Cn Int Nl)))) >>= fun t : (Cn Scr (Cn Int Nl)) => w_bag t.a t.r.a) >>= fun a => ((pure v2_s : W Int) >>= fun a => (pure Nl.mk : W Nl) >>= fun r => (pure (Cn.mk a r) : W (Cn Int Nl))) >>= fun r => (pure (Cn.mk a r) : W (Cn Bag (Cn Int Nl)))) >>= fun t : (Cn Bag (Cn Int Nl)) => w_l_layers t.a t.r.a)) xs)) fun v4_s =>
    (seqW (S1 := (T3 Order Order Order)) (setW (((((((pure v4_s : W (List (List Int))) >>= fun xs => (pure (Bor.mk xs) : W (Bor (List Int)))) >>= fun a => (pure 0 : W Int) >>= fun b => W.get (atI a.l b)) >>= fun xs => (pure (Bor.mk xs) : W (Bor Int))) >>= fun a => (pure Nl.mk : W Nl) >>= fun r => (pure (Cn.mk a r) : W (Cn (Bor Int) Nl))) >>= fun t : (Cn (Bor Int) Nl) => w_Order__init t.a) >>= fun a => ((((((pure v4_s : W (List (List Int))) >>= fun xs => (pure (Bor.mk xs) : W (Bor (List Int)))) >>= fun a => (pure 1 : W Int) >>= fun b => W.get (atI a.l b)) >>= fun xs => (pure (Bor.mk xs) : W (Bor Int))) >>= fun a => (pure Nl.mk : W Nl) >>= fun r => (pure (Cn.mk a r) : W (Cn (Bor Int) Nl))) >>= fun t : (Cn (Bor Int) Nl) => w_Order__init t.a) >>= fun b => ((((((pure v4_s : W (List (List Int))) >>= fun xs => (pure (Bor.mk xs) : W (Bor (List Int)))) >>= fun a => (pure 2 : W Int) >>= fun b => W.get (atI a.l b)) >>= fun xs => (pure (Bor.mk xs) : W (Bor Int))) >>= fun a => (pure Nl.mk : W Nl) >>= fun r => (pure (Cn.mk a r) : W (Cn (Bor Int) Nl))) >>= fun t : (Cn (Bor Int) Nl) => w_Order__init t.a) >>= fun c => (pure (T3.mk a b c) : W (T3 Order Order Order)))) fun v5_s =>
    (seqW (S1 := Order) (setW ((pure v5_s.a : W Order) >>= fun x => (pure v5_s.b : W Order) >>= fun y => w_Order__and x y)) fun v6_s =>
    (seqW (S1 := Unit) (ifW ((((pure v6_s : W Order) >>= fun x => ((pure v5_s.b : W Order) >>= fun x => (pure v5_s.a : W Order) >>= fun y => w_Order__and x y) >>= fun y => w_Order__eq x y) >>= fun b => (pure (!b) : W Bool)) >>= fun b => if b = true then (pure true : W Bool) else (((((pure v5_s.a : W Order) >>= fun x => (pure v5_s.a : W Order) >>= fun y => w_Order__and x y) >>= fun x => (pure v5_s.a : W Order) >>= fun y => w_Order__eq x y) >>= fun b => (pure (!b) : W Bool)) >>= fun b => if b = true then (pure true : W Bool) else (((((pure v5_s.a : W Order) >>= fun x => (pure v5_s.b : W Order) >>= fun y => w_Order__and x y) >>= fun x => (pure v5_s.c : W Order) >>= fun y => w_Order__and x y) >>= fun x => ((pure v5_s.a : W Order) >>= fun x => ((pure v5_s.b : W Order) >>= fun x => (pure v5_s.c : W Order) >>= fun y => w_Order__and x y) >>= fun y => w_Order__and x y) >>= fun y => w_Order__eq x y) >>= fun b => (pure (!b) : W Bool)))) ((retW (pure false : W Bool) : W (Res Unit Bool Empty)) : W (Res Unit Bool Empty)) (pure (.nx ()) : W (Res Unit Bool Empty))) fun v7_s =>
    (seqW (S1 := Unit) (ifW (((((pure v6_s : W Order) >>= fun a => ((pure v5_s.a : W Order) >>= fun a => ((pure v5_s.b : W Order) >>= fun a => ((pure v5_s.c : W Order) >>= fun a => (pure Nl.mk : W Nl) >>= fun r => (pure (Cn.mk a r) : W (Cn Order Nl))) >>= fun r => (pure (Cn.mk a r) : W (Cn Order (Cn Order Nl)))) >>= fun r => (pure (Cn.mk a r) : W (Cn Order (Cn Order (Cn Order Nl))))) >>= fun r => (pure (Cn.mk a r) : W (Cn Order (Cn Order (Cn Order (Cn Order Nl)))))) >>= fun t : (Cn Order (Cn Order (Cn Order (Cn Order Nl)))) => w_l_below_both t.a t.r.a t.r.r.a t.r.r.r.a) >>= fun b => (pure (!b) : W Bool)) >>= fun b => if b = true then (pure true : W Bool) else ((((pure v6_s : W Order) >>= fun a => ((pure v5_s.a : W Order) >>= fun a => ((pure v5_s.b : W Order) >>= fun a => (((pure v6_s : W Order) >>= fun x => (pure v5_s.c : W Order) >>= fun y => w_Order__and x y) >>= fun a => (pure Nl.mk : W Nl) >>= fun r => (pure (Cn.mk a r) : W (Cn Order Nl))) >>= fun r => (pure (Cn.mk a r) : W (Cn Order (Cn Order Nl)))) >>= fun r => (pure (Cn.mk a r) : W (Cn Order (Cn Order (Cn Order Nl))))) >>= fun r => (pure (Cn.mk a r) : W (Cn Order (Cn Order (Cn Order (Cn Order Nl)))))) >>= fun t : (Cn Order (Cn Order (Cn Order (Cn Order Nl)))) => w_l_below_both t.a t.r.a t.r.r.a t.r.r.r.a) >>= fun b => (pure (!b) : W Bool))) ((retW (pure false : W Bool) : W (Res Unit Bool Empty)) : W (Res Unit Bool Empty)) (pure (.nx ()) : W (Res Unit Bool Empty))) fun v8_s =>
    (seqW (S1 := (List (T3 Int Int Bool))) (setW (((pure v1_s : W Bag) >>= fun a => (((((pure v4_s : W (List (List Int))) >>= fun xs => (pure (Bor.mk xs) : W (Bor (List Int)))) >>= fun a => (pure 0 : W Int) >>= fun b => W.get (atI a.l b)) >>= fun xs => (pure (Bor.mk xs) : W (Bor Int))) >>= fun a => (((((pure v4_s : W (List (List Int))) >>= fun xs => (pure (Bor.mk xs) : W (Bor (List Int)))) >>= fun a => (pure 1 : W Int) >>= fun b => W.get (atI a.l b)) >>= fun xs => (pure (Bor.mk xs) : W (Bor Int))) >>= fun a => ((((pure v1_s : W Bag) >>= fun a => (((((pure 4 : W Int) >>= fun a => ((pure 8 : W Int) >>= fun a => ((pure 16 : W Int) >>= fun a => (pure [] : W (List Int)) >>= fun r => (pure (a :: r) : W (List Int))) >>= fun r => (pure (a :: r) : W (List Int))) >>= fun r => (pure (a :: r) : W (List Int))) >>= fun xs => W.need (xs.length ≤ sizeLine) >>= fun _ => (pure xs : W (List Int))) >>= fun xs => (pure (Bor.mk xs) : W (Bor Int))) >>= fun a => (pure Nl.mk : W Nl) >>= fun r => (pure (Cn.mk a r) : W (Cn (Bor Int) Nl))) >>= fun r => (pure (Cn.mk a r) : W (Cn Bag (Cn (Bor Int) Nl)))) >>= fun t : (Cn Bag (Cn (Bor Int) Nl)) => w_l_of t.a t.r.a) >>= fun a => (pure Nl.mk : W Nl) >>= fun r => (pure (Cn.mk a r) : W (Cn Int Nl))) >>= fun r => (pure (Cn.mk a r) : W (Cn (Bor Int) (Cn Int Nl)))) >>= fun r => (pure (Cn.mk a r) : W (Cn (Bor Int) (Cn (Bor Int) (Cn Int Nl))))) >>= fun r => (pure (Cn.mk a r) : W (Cn Bag (Cn (Bor Int) (Cn (Bor Int) (Cn Int Nl)))))) >>= fun t : (Cn Bag (Cn (Bor Int) (Cn (Bor Int) (Cn Int Nl)))) => w_l_drawn t.a t.r.a t.r.r.a t.r.r.r.a)) fun v9_s =>
    (seqW (S1 := (List (T3 Int Int Bool))) (setW ((pure v9_s : W (List (T3 Int Int Bool))) >>= fun xs => W.need (xs.length ≤ sizeLine) >>= fun _ => compW (fun v10_x => (((((((pure v4_s : W (List (List Int))) >>= fun xs => (pure (Bor.mk xs) : W (Bor (List Int)))) >>= fun a => (pure 0 : W Int) >>= fun b => W.get (atI a.l b)) >>= fun xs => (pure (Bor.mk xs) : W (Bor Int))) >>= fun a => ((pure v10_x : W (T3 Int Int Bool)) >>= fun a => (pure Nl.mk : W Nl) >>= fun r => (pure (Cn.mk a r) : W (Cn (T3 Int Int Bool) Nl))) >>= fun r => (pure (Cn.mk a r) : W (Cn (Bor Int) (Cn (T3 Int Int Bool) Nl)))) >>= fun t : (Cn (Bor Int) (Cn (T3 Int Int Bool) Nl)) => w_l_keeps t.a t.r.a) >>= fun b => if b = true then ((((((pure v4_s : W (List (List Int))) >>= fun xs => (pure (Bor.mk xs) : W (Bor (List Int)))) >>= fun a => (pure 1 : W Int) >>= fun b => W.get (atI a.l b)) >>= fun xs => (pure (Bor.mk xs) : W (Bor Int))) >>= fun a => ((pure v10_x : W (T3 Int Int Bool)) >>= fun a => (pure Nl.mk : W Nl) >>= fun r => (pure (Cn.mk a r) : W (Cn (T3 Int Int Bool) Nl))) >>= fun r => (pure (Cn.mk a r) : W (Cn (Bor Int) (Cn (T3 Int Int Bool) Nl)))) >>= fun t : (Cn (Bor Int) (Cn (T3 Int Int Bool) Nl)) => w_l_keeps t.a t.r.a) else (pure false : W Bool))) (fun (v10_x : (T3 Int Int Bool)) => (pure v10_x : W (T3 Int Int Bool))) xs)) fun v11_s =>
    (seqW (S1 := Unit) (ifW ((((pure v6_s : W Order) >>= fun o => ((((((pure v11_s : W (List (T3 Int Int Bool))) >>= fun xs => (pure (Bor.mk xs) : W (Bor (T3 Int Int Bool)))) >>= fun a => (pure Nl.mk : W Nl) >>= fun r => (pure (Cn.mk a r) : W (Cn (Bor (T3 Int Int Bool)) Nl))) >>= fun t : (Cn (Bor (T3 Int Int Bool)) Nl) => w_l_said t.a) >>= fun xs => (pure (Bor.mk xs) : W (Bor Saying))) >>= fun a => (pure Nl.mk : W Nl) >>= fun r => (pure (Cn.mk a r) : W (Cn (Bor Saying) Nl))) >>= fun t : (Cn (Bor Saying) Nl) => w_Order_keeps_all o t.a) >>= fun a => (pure true : W Bool) >>= fun b => (pure (!decide (a = b)) : W Bool)) >>= fun b => if b = true then (pure true : W Bool) else (((pure v6_s : W Order) >>= fun o => ((((((pure v11_s : W (List (T3 Int Int Bool))) >>= fun xs => (pure (Bor.mk xs) : W (Bor (T3 Int Int Bool)))) >>= fun a => (pure Nl.mk : W Nl) >>= fun r => (pure (Cn.mk a r) : W (Cn (Bor (T3 Int Int Bool)) Nl))) >>= fun t : (Cn (Bor (T3 Int Int Bool)) Nl) => w_l_said t.a) >>= fun xs => (pure (Bor.mk xs) : W (Bor Saying))) >>= fun a => (pure Nl.mk : W Nl) >>= fun r => (pure (Cn.mk a r) : W (Cn (Bor Saying) Nl))) >>= fun t : (Cn (Bor Saying) Nl) => w_Order__call o t.a) >>= fun a => (pure a.isSome : W Bool))) ((retW (pure false : W Bool) : W (Res Unit Bool Empty)) : W (Res Unit Bool Empty)) (pure (.nx ()) : W (Res Unit Bool Empty))) fun v12_s =>
    (seqW (S1 := Unit) (ifW (((((pure v5_s.a : W Order) >>= fun a => (((((pure v4_s : W (List (List Int))) >>= fun xs => (pure (Bor.mk xs) : W (Bor (List Int)))) >>= fun a => (pure 0 : W Int) >>= fun b => W.get (atI a.l b)) >>= fun xs => (pure (Bor.mk xs) : W (Bor Int))) >>= fun a => (((pure v9_s : W (List (T3 Int Int Bool))) >>= fun xs => (pure (Bor.mk xs) : W (Bor (T3 Int Int Bool)))) >>= fun a => (pure Nl.mk : W Nl) >>= fun r => (pure (Cn.mk a r) : W (Cn (Bor (T3 Int Int Bool)) Nl))) >>= fun r => (pure (Cn.mk a r) : W (Cn (Bor Int) (Cn (Bor (T3 Int Int Bool)) Nl)))) >>= fun r => (pure (Cn.mk a r) : W (Cn Order (Cn (Bor Int) (Cn (Bor (T3 Int Int Bool)) Nl))))) >>= fun t : (Cn Order (Cn (Bor Int) (Cn (Bor (T3 Int Int Bool)) Nl))) => w_l_closed t.a t.r.a t.r.r.a) >>= fun b => (pure (!b) : W Bool)) >>= fun b => if b = true then (pure true : W Bool) else ((((pure v5_s.b : W Order) >>= fun a => (((((pure v4_s : W (List (List Int))) >>= fun xs => (pure (Bor.mk xs) : W (Bor (List Int)))) >>= fun a => (pure 1 : W Int) >>= fun b => W.get (atI a.l b)) >>= fun xs => (pure (Bor.mk xs) : W (Bor Int))) >>= fun a => (((pure v9_s : W (List (T3 Int Int Bool))) >>= fun xs => (pure (Bor.mk xs) : W (Bor (T3 Int Int Bool)))) >>= fun a => (pure Nl.mk : W Nl) >>= fun r => (pure (Cn.mk a r) : W (Cn (Bor (T3 Int Int Bool)) Nl))) >>= fun r => (pure (Cn.mk a r) : W (Cn (Bor Int) (Cn (Bor (T3 Int Int Bool)) Nl)))) >>= fun r => (pure (Cn.mk a r) : W (Cn Order (Cn (Bor Int) (Cn (Bor (T3 Int Int Bool)) Nl))))) >>= fun t : (Cn Order (Cn (Bor Int) (Cn (Bor (T3 Int Int Bool)) Nl))) => w_l_closed t.a t.r.a t.r.r.a) >>= fun b => (pure (!b) : W Bool))) ((retW (pure false : W Bool) : W (Res Unit Bool Empty)) : W (Res Unit Bool Empty)) (pure (.nx ()) : W (Res Unit Bool Empty))) fun v13_s =>
    (seqW (S1 := Unit) (ifW ((((pure v6_s : W Order) >>= fun a => (((((pure v6_s : W Order) >>= fun o => (pure o.layers : W (Tup Int))) >>= fun b => (pure b.l : W (List Int))) >>= fun xs => (pure (Bor.mk xs) : W (Bor Int))) >>= fun a => (((pure v9_s : W (List (T3 Int Int Bool))) >>= fun xs => (pure (Bor.mk xs) : W (Bor (T3 Int Int Bool)))) >>= fun a => (pure Nl.mk : W Nl) >>= fun r => (pure (Cn.mk a r) : W (Cn (Bor (T3 Int Int Bool)) Nl))) >>= fun r => (pure (Cn.mk a r) : W (Cn (Bor Int) (Cn (Bor (T3 Int Int Bool)) Nl)))) >>= fun r => (pure (Cn.mk a r) : W (Cn Order (Cn (Bor Int) (Cn (Bor (T3 Int Int Bool)) Nl))))) >>= fun t : (Cn Order (Cn (Bor Int) (Cn (Bor (T3 Int Int Bool)) Nl))) => w_l_closed t.a t.r.a t.r.r.a) >>= fun b => (pure (!b) : W Bool)) ((retW (pure false : W Bool) : W (Res Unit Bool Empty)) : W (Res Unit Bool Empty)) (pure (.nx ()) : W (Res Unit Bool Empty))) fun v14_s =>
    (seqW (S1 := (T2 Marks (List Saying))) (setW ((((pure v2_s : W Int) >>= fun a => (pure Nl.mk : W Nl) >>= fun r => (pure (Cn.mk a r) : W (Cn Int Nl))) >>= fun t : (Cn Int Nl) => w_l_marks t.a) >>= fun a => ((((pure v11_s : W (List (T3 Int Int Bool))) >>= fun xs => (pure (Bor.mk xs) : W (Bor (T3 Int Int Bool)))) >>= fun a => (pure Nl.mk : W Nl) >>= fun r => (pure (Cn.mk a r) : W (Cn (Bor (T3 Int Int Bool)) Nl))) >>= fun t : (Cn (Bor (T3 Int Int Bool)) Nl) => w_l_said t.a) >>= fun b => (pure (T2.mk a b) : W (T2 Marks (List Saying))))) fun v15_s =>
    (seqW (S1 := (Sm2 Lifted Stuck)) (setW (((((pure v15_s.a : W Marks) >>= fun a => (((((pure v15_s.b : W (List Saying)) >>= fun xs => (pure (Bor.mk xs) : W (Bor Saying))) >>= fun a => (pure none : W (Option Int)) >>= fun l => ((pure 12 : W Int) >>= fun i => (pure (some i) : W (Option Int))) >>= fun u => (pure (cutL a.l l u) : W (List Saying))) >>= fun xs => (pure (Bor.mk xs) : W (Bor Saying))) >>= fun a => (pure Nl.mk : W Nl) >>= fun r => (pure (Cn.mk a r) : W (Cn (Bor Saying) Nl))) >>= fun r => (pure (Cn.mk a r) : W (Cn Marks (Cn (Bor Saying) Nl)))) >>= fun t : (Cn Marks (Cn (Bor Saying) Nl)) => w_Book__init t.a t.r.a) >>= fun a => (pure Nl.mk : W Nl) >>= fun r => (pure (Cn.mk a r) : W (Cn Book Nl))) >>= fun t : (Cn Book Nl) => w_lift t.a ⟨[]⟩)) fun v16_s =>
    (seqW (S1 := Unit) (ifW ((((pure v16_s : W (Sm2 Lifted Stuck)) >>= fun s => (pure (match s with | .a _ => true | .b _ => false) : W Bool)) >>= fun b => (pure (!b) : W Bool)) >>= fun b => if b = true then (pure true : W Bool) else ((((((pure v16_s : W (Sm2 Lifted Stuck)) >>= fun s => W.get s.a?) >>= fun o => (pure o.order : W Order)) >>= fun o => ((pure v6_s : W Order) >>= fun a => (pure Nl.mk : W Nl) >>= fun r => (pure (Cn.mk a r) : W (Cn Order Nl))) >>= fun t : (Cn Order Nl) => w_Order_beneath o t.a) >>= fun a => (pure true : W Bool) >>= fun b => (pure (!decide (a = b)) : W Bool)) >>= fun b => if b = true then (pure true : W Bool) else (((((pure v16_s : W (Sm2 Lifted Stuck)) >>= fun s => W.get s.a?) >>= fun o => (pure o.order : W Order)) >>= fun x => ((((pure v16_s : W (Sm2 Lifted Stuck)) >>= fun s => W.get s.a?) >>= fun o => (pure o.order : W Order)) >>= fun o => (pure Nl.mk : W Nl) >>= fun t : Nl => w_Order_closed o) >>= fun y => w_Order__eq x y) >>= fun b => (pure (!b) : W Bool)))) ((retW (pure false : W Bool) : W (Res Unit Bool Empty)) : W (Res Unit Bool Empty)) (pure (.nx ()) : W (Res Unit Bool Empty))) fun v17_s =>
    ((retW ((((((pure v16_s : W (Sm2 Lifted Stuck)) >>= fun s => W.get s.a?) >>= fun o => (pure o.order : W Order)) >>= fun o => (((((pure v15_s.b : W (List Saying)) >>= fun xs => (pure (Bor.mk xs) : W (Bor Saying))) >>= fun a => (pure none : W (Option Int)) >>= fun l => ((pure 12 : W Int) >>= fun i => (pure (some i) : W (Option Int))) >>= fun u => (pure (cutL a.l l u) : W (List Saying))) >>= fun xs => (pure (Bor.mk xs) : W (Bor Saying))) >>= fun a => (pure Nl.mk : W Nl) >>= fun r => (pure (Cn.mk a r) : W (Cn (Bor Saying) Nl))) >>= fun t : (Cn (Bor Saying) Nl) => w_Order_keeps_all o t.a) >>= fun a => (pure true : W Bool) >>= fun b => (pure (decide (a = b)) : W Bool)) >>= fun b => if b = true then (((((pure v16_s : W (Sm2 Lifted Stuck)) >>= fun s => W.get s.a?) >>= fun o => (pure o.order : W Order)) >>= fun o => (((pure v5_s.a : W Order) >>= fun x => ((pure v5_s.b : W Order) >>= fun o => (pure Nl.mk : W Nl) >>= fun t : Nl => w_Order_closed o) >>= fun y => w_Order__and x y) >>= fun a => (pure Nl.mk : W Nl) >>= fun r => (pure (Cn.mk a r) : W (Cn Order Nl))) >>= fun t : (Cn Order Nl) => w_Order_beneath o t.a) >>= fun a => (pure true : W Bool) >>= fun b => (pure (decide (a = b)) : W Bool)) else (pure false : W Bool)) : W (Res Unit Bool Empty)) : W (Res Unit Bool Empty)))))))))))))))))
end TW
set_option Elab.async false
set_option maxRecDepth 100000
set_option maxHeartbeats 8000000
set_option linter.all false
set_option autoImplicit false

namespace TW
open Pa (rep)
open PaL (repL)
open PySem PySem.Spec PyProof.Rows L2 My

def top (i : Nat) : Stmt := PySem.Challenge.pw_usualdays_k15_whole_lesser_and_closed_or.main.body.getD i (.Pass ⟨0, 0, 0, 0⟩)
-- _law_bag
abbrev s_l_bag : Stmt := top 54
abbrev N_l_bag : List Str := ["_law_script", "_law_at", "_law_cell", "_law_seed", "_law_place", "_law_each"]
theorem sc_l_bag : FnScope N_l_bag ["_law_script", "_law_at"] (defScope s_l_bag) := ⟨rfl, rfl, rfl, by decide +kernel, rfl, by decide +kernel, by decide +kernel⟩
-- _law_take
abbrev s_l_take : Stmt := top 55
abbrev N_l_take : List Str := ["_law_bag_here", "_law_many", "_law_digit"]
theorem sc_l_take : FnScope N_l_take ["_law_bag_here", "_law_many"] (defScope s_l_take) := ⟨rfl, rfl, rfl, by decide +kernel, rfl, by decide +kernel, by decide +kernel⟩
-- _law_of
abbrev s_l_of : Stmt := top 56
abbrev N_l_of : List Str := ["_law_bag_here", "_law_some"]
theorem sc_l_of : FnScope N_l_of ["_law_bag_here", "_law_some"] (defScope s_l_of) := ⟨rfl, rfl, rfl, by decide +kernel, rfl, by decide +kernel, by decide +kernel⟩
-- _law_layers
abbrev s_l_layers : Stmt := top 57
abbrev N_l_layers : List Str := ["_law_bag_here", "_law_days", "_law_top", "_law_layers_here", "_law_lowest", "_law_one", "_law_two", "_law_places", "_law_k", "_law_layer"]
theorem sc_l_layers : FnScope N_l_layers ["_law_bag_here", "_law_days"] (defScope s_l_layers) := ⟨rfl, rfl, rfl, by decide +kernel, rfl, by decide +kernel, by decide +kernel⟩
-- is_number
abbrev s_is_number : Stmt := top 17
abbrev N_is_number : List Str := ["thing"]
theorem sc_is_number : FnScope N_is_number ["thing"] (defScope s_is_number) := ⟨rfl, rfl, rfl, by decide +kernel, rfl, by decide +kernel, by decide +kernel⟩
-- is_whole
abbrev s_is_whole : Stmt := top 18
abbrev N_is_whole : List Str := ["thing", "low", "high"]
theorem sc_is_whole : FnScope N_is_whole ["thing", "low", "high"] (defScope s_is_whole) := ⟨rfl, rfl, rfl, by decide +kernel, rfl, by decide +kernel, by decide +kernel⟩
-- check_layers
abbrev s_check_layers : Stmt := top 22
abbrev N_check_layers : List Str := ["layers", "layer"]
theorem sc_check_layers : FnScope N_check_layers ["layers"] (defScope s_check_layers) := ⟨rfl, rfl, rfl, by decide +kernel, rfl, by decide +kernel, by decide +kernel⟩
-- Order.__init__
abbrev s_Order__init : Stmt := inClass (top 23) 0
abbrev N_Order__init : List Str := ["self", "layers"]
theorem sc_Order__init : FnScope N_Order__init ["self", "layers"] (defScope s_Order__init) := ⟨rfl, rfl, rfl, by decide +kernel, rfl, by decide +kernel, by decide +kernel⟩
-- Order._check_length
abbrev s_Order_check_length : Stmt := inClass (top 23) 14
abbrev N_Order_check_length : List Str := ["self", "other"]
theorem sc_Order_check_length : FnScope N_Order_check_length ["self", "other"] (defScope s_Order_check_length) := ⟨rfl, rfl, rfl, by decide +kernel, rfl, by decide +kernel, by decide +kernel⟩
-- Order.__and__
abbrev s_Order__and : Stmt := inClass (top 23) 18
abbrev N_Order__and : List Str := ["self", "other", "mine", "yours"]
theorem sc_Order__and : FnScope N_Order__and ["self", "other"] (defScope s_Order__and) := ⟨rfl, rfl, rfl, by decide +kernel, rfl, by decide +kernel, by decide +kernel⟩
-- Order.__eq__
abbrev s_Order__eq : Stmt := inClass (top 23) 19
abbrev N_Order__eq : List Str := ["self", "other"]
theorem sc_Order__eq : FnScope N_Order__eq ["self", "other"] (defScope s_Order__eq) := ⟨rfl, rfl, rfl, by decide +kernel, rfl, by decide +kernel, by decide +kernel⟩
-- _law_beneath
abbrev s_l_beneath : Stmt := top 66
abbrev N_l_beneath : List Str := ["_law_low", "_law_high", "_law_a", "_law_b"]
theorem sc_l_beneath : FnScope N_l_beneath ["_law_low", "_law_high"] (defScope s_l_beneath) := ⟨rfl, rfl, rfl, by decide +kernel, rfl, by decide +kernel, by decide +kernel⟩
-- Order.beneath
abbrev s_Order_beneath : Stmt := inClass (top 23) 8
abbrev N_Order_beneath : List Str := ["self", "other", "mine", "yours"]
theorem sc_Order_beneath : FnScope N_Order_beneath ["self", "other"] (defScope s_Order_beneath) := ⟨rfl, rfl, rfl, by decide +kernel, rfl, by decide +kernel, by decide +kernel⟩
-- _law_flag
abbrev s_l_flag : Stmt := top 64
abbrev N_l_flag : List Str := ["_law_thing", "_law_due"]
theorem sc_l_flag : FnScope N_l_flag ["_law_thing", "_law_due"] (defScope s_l_flag) := ⟨rfl, rfl, rfl, by decide +kernel, rfl, by decide +kernel, by decide +kernel⟩
-- _law_below_both
abbrev s_l_below_both : Stmt := top 67
abbrev N_l_below_both : List Str := ["_law_both", "_law_one", "_law_two", "_law_three", "_law_due"]
theorem sc_l_below_both : FnScope N_l_below_both ["_law_both", "_law_one", "_law_two", "_law_three"] (defScope s_l_below_both) := ⟨rfl, rfl, rfl, by decide +kernel, rfl, by decide +kernel, by decide +kernel⟩
-- _law_toward
abbrev s_l_toward : Stmt := top 60
abbrev N_l_toward : List Str := ["_law_bag_here", "_law_layers_here", "_law_every", "_law_where", "_law_base", "_law_day", "_law_lowest", "_law_normal", "_law_then", "_law_layer"]
theorem sc_l_toward : FnScope N_l_toward ["_law_bag_here", "_law_layers_here"] (defScope s_l_toward) := ⟨rfl, rfl, rfl, by decide +kernel, rfl, by decide +kernel, by decide +kernel⟩
-- _law_any
abbrev s_l_any : Stmt := top 61
abbrev N_l_any : List Str := ["_law_bag_here", "_law_days", "_law_every"]
theorem sc_l_any : FnScope N_l_any ["_law_bag_here", "_law_days"] (defScope s_l_any) := ⟨rfl, rfl, rfl, by decide +kernel, rfl, by decide +kernel, by decide +kernel⟩
-- _law_drawn
abbrev s_l_drawn : Stmt := top 65
abbrev N_l_drawn : List Str := ["_law_bag_here", "_law_one", "_law_two", "_law_many", "_law_sayings", "_law_k", "_law_kind"]
theorem sc_l_drawn : FnScope N_l_drawn ["_law_bag_here", "_law_one", "_law_two", "_law_many"] (defScope s_l_drawn) := ⟨rfl, rfl, rfl, by decide +kernel, rfl, by decide +kernel, by decide +kernel⟩
-- _law_sides
abbrev s_l_sides : Stmt := top 58
abbrev N_l_sides : List Str := ["_law_saying", "_law_where", "_law_then", "_law_usual"]
theorem sc_l_sides : FnScope N_l_sides ["_law_saying"] (defScope s_l_sides) := ⟨rfl, rfl, rfl, by decide +kernel, rfl, by decide +kernel, by decide +kernel⟩
-- _law_keeps
abbrev s_l_keeps : Stmt := top 59
abbrev N_l_keeps : List Str := ["_law_layers_here", "_law_saying", "_law_low", "_law_high", "_law_lows", "_law_highs", "_law_day", "_law_layer"]
theorem sc_l_keeps : FnScope N_l_keeps ["_law_layers_here", "_law_saying"] (defScope s_l_keeps) := ⟨rfl, rfl, rfl, by decide +kernel, rfl, by decide +kernel, by decide +kernel⟩
-- is_day_set
abbrev s_is_day_set : Stmt := top 34
abbrev N_is_day_set : List Str := ["thing"]
theorem sc_is_day_set : FnScope N_is_day_set ["thing"] (defScope s_is_day_set) := ⟨rfl, rfl, rfl, by decide +kernel, rfl, by decide +kernel, by decide +kernel⟩
-- Saying.__init__
abbrev s_Saying__init : Stmt := inClass (top 36) 0
abbrev N_Saying__init : List Str := ["self", "where", "then", "usual"]
theorem sc_Saying__init : FnScope N_Saying__init ["self", "where", "then", "usual"] (defScope s_Saying__init) := ⟨rfl, rfl, rfl, by decide +kernel, rfl, by decide +kernel, by decide +kernel⟩
-- _law_said
abbrev s_l_said : Stmt := top 63
abbrev N_l_said : List Str := ["_law_sayings", "_law_where", "_law_then", "_law_usual"]
theorem sc_l_said : FnScope N_l_said ["_law_sayings"] (defScope s_l_said) := ⟨rfl, rfl, rfl, by decide +kernel, rfl, by decide +kernel, by decide +kernel⟩
-- Order._check_days
abbrev s_Order_check_days : Stmt := inClass (top 23) 13
abbrev N_Order_check_days : List Str := ["self", "days"]
theorem sc_Order_check_days : FnScope N_Order_check_days ["self", "days"] (defScope s_Order_check_days) := ⟨rfl, rfl, rfl, by decide +kernel, rfl, by decide +kernel, by decide +kernel⟩
-- days_in
abbrev s_days_in : Stmt := top 2
abbrev N_days_in : List Str := ["day_set", "day"]
theorem sc_days_in : FnScope N_days_in ["day_set"] (defScope s_days_in) := ⟨rfl, rfl, rfl, by decide +kernel, rfl, by decide +kernel, by decide +kernel⟩
-- Order.least
abbrev s_Order_least : Stmt := inClass (top 23) 5
abbrev N_Order_least : List Str := ["self", "days", "day"]
theorem sc_Order_least : FnScope N_Order_least ["self", "days"] (defScope s_Order_least) := ⟨rfl, rfl, rfl, by decide +kernel, rfl, by decide +kernel, by decide +kernel⟩
-- Order.keeps
abbrev s_Order_keeps : Stmt := inClass (top 23) 9
abbrev N_Order_keeps : List Str := ["self", "saying", "bottom", "breaking"]
theorem sc_Order_keeps : FnScope N_Order_keeps ["self", "saying"] (defScope s_Order_keeps) := ⟨rfl, rfl, rfl, by decide +kernel, rfl, by decide +kernel, by decide +kernel⟩
-- Order._first_not_kept
abbrev s_Order_first_not_kept : Stmt := inClass (top 23) 12
abbrev N_Order_first_not_kept : List Str := ["self", "sayings", "saying", "number"]
theorem sc_Order_first_not_kept : FnScope N_Order_first_not_kept ["self", "sayings"] (defScope s_Order_first_not_kept) := ⟨rfl, rfl, rfl, by decide +kernel, rfl, by decide +kernel, by decide +kernel⟩
-- Order.keeps_all
abbrev s_Order_keeps_all : Stmt := inClass (top 23) 10
abbrev N_Order_keeps_all : List Str := ["self", "sayings"]
theorem sc_Order_keeps_all : FnScope N_Order_keeps_all ["self", "sayings"] (defScope s_Order_keeps_all) := ⟨rfl, rfl, rfl, by decide +kernel, rfl, by decide +kernel, by decide +kernel⟩
-- Order.__call__
abbrev s_Order__call : Stmt := inClass (top 23) 11
abbrev N_Order__call : List Str := ["self", "sayings"]
theorem sc_Order__call : FnScope N_Order__call ["self", "sayings"] (defScope s_Order__call) := ⟨rfl, rfl, rfl, by decide +kernel, rfl, by decide +kernel, by decide +kernel⟩
-- Order.closed
abbrev s_Order_closed : Stmt := inClass (top 23) 7
abbrev N_Order_closed : List Str := ["self", "different", "places", "place", "layer"]
theorem sc_Order_closed : FnScope N_Order_closed ["self"] (defScope s_Order_closed) := ⟨rfl, rfl, rfl, by decide +kernel, rfl, by decide +kernel, by decide +kernel⟩
-- _law_closed
abbrev s_l_closed : Stmt := top 68
abbrev N_l_closed : List Str := ["_law_order", "_law_layers_here", "_law_sayings", "_law_closed_here", "_law_found", "_law_saying", "_law_thing", "_law_kept"]
theorem sc_l_closed : FnScope N_l_closed ["_law_order", "_law_layers_here", "_law_sayings"] (defScope s_l_closed) := ⟨rfl, rfl, rfl, by decide +kernel, rfl, by decide +kernel, by decide +kernel⟩
-- name_fault
abbrev s_name_fault : Stmt := top 28
abbrev N_name_fault : List Str := ["name", "letter"]
theorem sc_name_fault : FnScope N_name_fault ["name"] (defScope s_name_fault) := ⟨rfl, rfl, rfl, by decide +kernel, rfl, by decide +kernel, by decide +kernel⟩
-- check_names
abbrev s_check_names : Stmt := top 29
abbrev N_check_names : List Str := ["names", "index", "name", "fault"]
theorem sc_check_names : FnScope N_check_names ["names"] (defScope s_check_names) := ⟨rfl, rfl, rfl, by decide +kernel, rfl, by decide +kernel, by decide +kernel⟩
-- Marks.__init__
abbrev s_Marks__init : Stmt := inClass (top 30) 0
abbrev N_Marks__init : List Str := ["self", "names"]
theorem sc_Marks__init : FnScope N_Marks__init ["self", "names"] (defScope s_Marks__init) := ⟨rfl, rfl, rfl, by decide +kernel, rfl, by decide +kernel, by decide +kernel⟩
-- _law_marks
abbrev s_l_marks : Stmt := top 62
abbrev N_l_marks : List Str := ["_law_days"]
theorem sc_l_marks : FnScope N_l_marks ["_law_days"] (defScope s_l_marks) := ⟨rfl, rfl, rfl, by decide +kernel, rfl, by decide +kernel, by decide +kernel⟩
-- within
abbrev s_within : Stmt := top 4
abbrev N_within : List Str := ["one", "other"]
theorem sc_within : FnScope N_within ["one", "other"] (defScope s_within) := ⟨rfl, rfl, rfl, by decide +kernel, rfl, by decide +kernel, by decide +kernel⟩
-- has_days
abbrev s_has_days : Stmt := top 39
abbrev N_has_days : List Str := ["marks", "saying"]
theorem sc_has_days : FnScope N_has_days ["marks", "saying"] (defScope s_has_days) := ⟨rfl, rfl, rfl, by decide +kernel, rfl, by decide +kernel, by decide +kernel⟩
-- check_book
abbrev s_check_book : Stmt := top 40
abbrev N_check_book : List Str := ["marks", "sayings", "number", "saying"]
theorem sc_check_book : FnScope N_check_book ["marks", "sayings"] (defScope s_check_book) := ⟨rfl, rfl, rfl, by decide +kernel, rfl, by decide +kernel, by decide +kernel⟩
-- Book.__init__
abbrev s_Book__init : Stmt := inClass (top 42) 0
abbrev N_Book__init : List Str := ["self", "marks", "sayings"]
theorem sc_Book__init : FnScope N_Book__init ["self", "marks", "sayings"] (defScope s_Book__init) := ⟨rfl, rfl, rfl, by decide +kernel, rfl, by decide +kernel, by decide +kernel⟩
-- check_fitting
abbrev s_check_fitting : Stmt := top 44
abbrev N_check_fitting : List Str := ["days", "sayings", "saying"]
theorem sc_check_fitting : FnScope N_check_fitting ["days", "sayings"] (defScope s_check_fitting) := ⟨rfl, rfl, rfl, by decide +kernel, rfl, by decide +kernel, by decide +kernel⟩
-- check_days
abbrev s_check_days : Stmt := top 45
abbrev N_check_days : List Str := ["marks", "sayings"]
theorem sc_check_days : FnScope N_check_days ["marks", "sayings"] (defScope s_check_days) := ⟨rfl, rfl, rfl, by decide +kernel, rfl, by decide +kernel, by decide +kernel⟩
-- set_of
abbrev s_set_of : Stmt := top 3
abbrev N_set_of : List Str := ["days", "day_set", "day"]
theorem sc_set_of : FnScope N_set_of ["days"] (defScope s_set_of) := ⟨rfl, rfl, rfl, by decide +kernel, rfl, by decide +kernel, by decide +kernel⟩
-- stay
abbrev s_stay : Stmt := top 51
abbrev N_stay : List Str := ["sayings", "room", "placed", "reasons", "heights", "staying", "height", "again", "number", "saying", "leaving", "holding", "day"]
theorem sc_stay : FnScope N_stay ["sayings", "room", "placed", "reasons", "heights"] (defScope s_stay) := ⟨rfl, rfl, rfl, by decide +kernel, rfl, by decide +kernel, by decide +kernel⟩
-- layer_behind
abbrev s_layer_behind : Stmt := top 52
abbrev N_layer_behind : List Str := ["layer", "start", "grown", "least"]
theorem sc_layer_behind : FnScope N_layer_behind ["layer", "start", "grown"] (defScope s_layer_behind) := ⟨rfl, rfl, rfl, by decide +kernel, rfl, by decide +kernel, by decide +kernel⟩
-- climb
abbrev s_climb : Stmt := top 50
abbrev N_climb : List Str := ["sayings", "start", "layers", "reasons", "heights", "placed", "layer", "day", "room", "staying", "least"]
theorem sc_climb : FnScope N_climb ["sayings", "start"] (defScope s_climb) := ⟨rfl, rfl, rfl, by decide +kernel, rfl, by decide +kernel, by decide +kernel⟩
-- Lifted.__init__
abbrev s_Lifted__init : Stmt := inClass (top 47) 0
abbrev N_Lifted__init : List Str := ["self", "order", "reasons", "heights"]
theorem sc_Lifted__init : FnScope N_Lifted__init ["self", "order", "reasons", "heights"] (defScope s_Lifted__init) := ⟨rfl, rfl, rfl, by decide +kernel, rfl, by decide +kernel, by decide +kernel⟩
-- Stuck.__init__
abbrev s_Stuck__init : Stmt := inClass (top 48) 0
abbrev N_Stuck__init : List Str := ["self", "days", "reasons", "heights"]
theorem sc_Stuck__init : FnScope N_Stuck__init ["self", "days", "reasons", "heights"] (defScope s_Stuck__init) := ⟨rfl, rfl, rfl, by decide +kernel, rfl, by decide +kernel, by decide +kernel⟩
-- lift
abbrev s_lift : Stmt := top 49
abbrev N_lift : List Str := ["book", "further", "layers", "reasons", "heights", "stuck", "without_end", "layer", "reason", "day"]
theorem sc_lift : FnScope N_lift ["book", "further"] (defScope s_lift) := ⟨rfl, rfl, rfl, by decide +kernel, rfl, by decide +kernel, by decide +kernel⟩
-- law
abbrev s_law : Stmt := top 69
abbrev N_law : List Str := ["_law_script", "_law_bag_here", "_law_days", "_law_rows", "_law_one", "_law_two", "_law_three", "_law_both", "_law_sayings", "_law_kept", "_law_marks_here", "_law_said_here", "_law_told", "_law_k", "_law_saying"]
theorem sc_law : FnScope N_law ["_law_script"] (defScope s_law) := ⟨rfl, rfl, rfl, by decide +kernel, rfl, by decide +kernel, by decide +kernel⟩
-- BadMarks.__init__
abbrev s_BadMarks__init : Stmt := inClass (top 7) 0
abbrev N_BadMarks__init : List Str := ["self", "what", "index"]
theorem sc_BadMarks__init : FnScope N_BadMarks__init ["self", "what", "index"] (defScope s_BadMarks__init) := ⟨rfl, rfl, rfl, by decide +kernel, rfl, by decide +kernel, by decide +kernel⟩
-- BadSaying.__init__
abbrev s_BadSaying__init : Stmt := inClass (top 10) 0
abbrev N_BadSaying__init : List Str := ["self", "what"]
theorem sc_BadSaying__init : FnScope N_BadSaying__init ["self", "what"] (defScope s_BadSaying__init) := ⟨rfl, rfl, rfl, by decide +kernel, rfl, by decide +kernel, by decide +kernel⟩
-- BadBook.__init__
abbrev s_BadBook__init : Stmt := inClass (top 11) 0
abbrev N_BadBook__init : List Str := ["self", "what", "number"]
theorem sc_BadBook__init : FnScope N_BadBook__init ["self", "what", "number"] (defScope s_BadBook__init) := ⟨rfl, rfl, rfl, by decide +kernel, rfl, by decide +kernel, by decide +kernel⟩
-- OtherDays.__init__
abbrev s_OtherDays__init : Stmt := inClass (top 14) 0
abbrev N_OtherDays__init : List Str := ["self"]
theorem sc_OtherDays__init : FnScope N_OtherDays__init ["self"] (defScope s_OtherDays__init) := ⟨rfl, rfl, rfl, by decide +kernel, rfl, by decide +kernel, by decide +kernel⟩
-- BadOrder.__init__
abbrev s_BadOrder__init : Stmt := inClass (top 15) 0
abbrev N_BadOrder__init : List Str := ["self", "what"]
theorem sc_BadOrder__init : FnScope N_BadOrder__init ["self", "what"] (defScope s_BadOrder__init) := ⟨rfl, rfl, rfl, by decide +kernel, rfl, by decide +kernel, by decide +kernel⟩
structure Fa (K : PySem.W.Frag) (mg : Str → Option Value) where
  cls : Nat → Addr
  f_l_bag : Addr
  fd_l_bag : FuncData
  F_l_bag : Fun K "_law_bag" "_law_bag" s_l_bag f_l_bag fd_l_bag
  D_l_bag : Df K mg "_law_bag" ["_law_script", "_law_at"] f_l_bag fd_l_bag
  f_l_take : Addr
  fd_l_take : FuncData
  F_l_take : Fun K "_law_take" "_law_take" s_l_take f_l_take fd_l_take
  D_l_take : Df K mg "_law_take" ["_law_bag_here", "_law_many"] f_l_take fd_l_take
  f_l_of : Addr
  fd_l_of : FuncData
  F_l_of : Fun K "_law_of" "_law_of" s_l_of f_l_of fd_l_of
  D_l_of : Df K mg "_law_of" ["_law_bag_here", "_law_some"] f_l_of fd_l_of
  f_l_layers : Addr
  fd_l_layers : FuncData
  F_l_layers : Fun K "_law_layers" "_law_layers" s_l_layers f_l_layers fd_l_layers
  D_l_layers : Df K mg "_law_layers" ["_law_bag_here", "_law_days"] f_l_layers fd_l_layers
  f_is_number : Addr
  fd_is_number : FuncData
  F_is_number : Fun K "is_number" "is_number" s_is_number f_is_number fd_is_number
  D_is_number : Df K mg "is_number" ["thing"] f_is_number fd_is_number
  f_is_whole : Addr
  fd_is_whole : FuncData
  F_is_whole : Fun K "is_whole" "is_whole" s_is_whole f_is_whole fd_is_whole
  D_is_whole : Df K mg "is_whole" ["thing", "low", "high"] f_is_whole fd_is_whole
  f_check_layers : Addr
  fd_check_layers : FuncData
  F_check_layers : Fun K "check_layers" "check_layers" s_check_layers f_check_layers fd_check_layers
  D_check_layers : Df K mg "check_layers" ["layers"] f_check_layers fd_check_layers
  f_Order__init : Addr
  fd_Order__init : FuncData
  F_Order__init : Fun K "__init__" "Order.__init__" s_Order__init f_Order__init fd_Order__init
  b_Order__init : Binds K fd_Order__init ["self", "layers"] []
  f_Order_check_length : Addr
  fd_Order_check_length : FuncData
  F_Order_check_length : Fun K "_check_length" "Order._check_length" s_Order_check_length f_Order_check_length fd_Order_check_length
  b_Order_check_length : Binds K fd_Order_check_length ["self", "other"] []
  f_Order__and : Addr
  fd_Order__and : FuncData
  F_Order__and : Fun K "__and__" "Order.__and__" s_Order__and f_Order__and fd_Order__and
  b_Order__and : Binds K fd_Order__and ["self", "other"] []
  f_Order__eq : Addr
  fd_Order__eq : FuncData
  F_Order__eq : Fun K "__eq__" "Order.__eq__" s_Order__eq f_Order__eq fd_Order__eq
  b_Order__eq : Binds K fd_Order__eq ["self", "other"] []
  f_l_beneath : Addr
  fd_l_beneath : FuncData
  F_l_beneath : Fun K "_law_beneath" "_law_beneath" s_l_beneath f_l_beneath fd_l_beneath
  D_l_beneath : Df K mg "_law_beneath" ["_law_low", "_law_high"] f_l_beneath fd_l_beneath
  f_Order_beneath : Addr
  fd_Order_beneath : FuncData
  F_Order_beneath : Fun K "beneath" "Order.beneath" s_Order_beneath f_Order_beneath fd_Order_beneath
  b_Order_beneath : Binds K fd_Order_beneath ["self", "other"] []
  f_l_flag : Addr
  fd_l_flag : FuncData
  F_l_flag : Fun K "_law_flag" "_law_flag" s_l_flag f_l_flag fd_l_flag
  D_l_flag : Df K mg "_law_flag" ["_law_thing", "_law_due"] f_l_flag fd_l_flag
  f_l_below_both : Addr
  fd_l_below_both : FuncData
  F_l_below_both : Fun K "_law_below_both" "_law_below_both" s_l_below_both f_l_below_both fd_l_below_both
  D_l_below_both : Df K mg "_law_below_both" ["_law_both", "_law_one", "_law_two", "_law_three"] f_l_below_both fd_l_below_both
  f_l_toward : Addr
  fd_l_toward : FuncData
  F_l_toward : Fun K "_law_toward" "_law_toward" s_l_toward f_l_toward fd_l_toward
  D_l_toward : Df K mg "_law_toward" ["_law_bag_here", "_law_layers_here"] f_l_toward fd_l_toward
  f_l_any : Addr
  fd_l_any : FuncData
  F_l_any : Fun K "_law_any" "_law_any" s_l_any f_l_any fd_l_any
  D_l_any : Df K mg "_law_any" ["_law_bag_here", "_law_days"] f_l_any fd_l_any
  f_l_drawn : Addr
  fd_l_drawn : FuncData
  F_l_drawn : Fun K "_law_drawn" "_law_drawn" s_l_drawn f_l_drawn fd_l_drawn
  D_l_drawn : Df K mg "_law_drawn" ["_law_bag_here", "_law_one", "_law_two", "_law_many"] f_l_drawn fd_l_drawn
  f_l_sides : Addr
  fd_l_sides : FuncData
  F_l_sides : Fun K "_law_sides" "_law_sides" s_l_sides f_l_sides fd_l_sides
  D_l_sides : Df K mg "_law_sides" ["_law_saying"] f_l_sides fd_l_sides
  f_l_keeps : Addr
  fd_l_keeps : FuncData
  F_l_keeps : Fun K "_law_keeps" "_law_keeps" s_l_keeps f_l_keeps fd_l_keeps
  D_l_keeps : Df K mg "_law_keeps" ["_law_layers_here", "_law_saying"] f_l_keeps fd_l_keeps
  f_is_day_set : Addr
  fd_is_day_set : FuncData
  F_is_day_set : Fun K "is_day_set" "is_day_set" s_is_day_set f_is_day_set fd_is_day_set
  D_is_day_set : Df K mg "is_day_set" ["thing"] f_is_day_set fd_is_day_set
  f_Saying__init : Addr
  fd_Saying__init : FuncData
  F_Saying__init : FunD K "__init__" "Saying.__init__" (defArgs s_Saying__init) (defBody s_Saying__init) (defScope s_Saying__init) [.bl true] [] f_Saying__init fd_Saying__init
  b_Saying__init : Binds K fd_Saying__init ["self", "where", "then", "usual"] []
  f_l_said : Addr
  fd_l_said : FuncData
  F_l_said : Fun K "_law_said" "_law_said" s_l_said f_l_said fd_l_said
  D_l_said : Df K mg "_law_said" ["_law_sayings"] f_l_said fd_l_said
  f_Order_check_days : Addr
  fd_Order_check_days : FuncData
  F_Order_check_days : Fun K "_check_days" "Order._check_days" s_Order_check_days f_Order_check_days fd_Order_check_days
  b_Order_check_days : Binds K fd_Order_check_days ["self", "days"] []
  f_days_in : Addr
  fd_days_in : FuncData
  F_days_in : Fun K "days_in" "days_in" s_days_in f_days_in fd_days_in
  D_days_in : Df K mg "days_in" ["day_set"] f_days_in fd_days_in
  f_Order_least : Addr
  fd_Order_least : FuncData
  F_Order_least : Fun K "least" "Order.least" s_Order_least f_Order_least fd_Order_least
  b_Order_least : Binds K fd_Order_least ["self", "days"] []
  f_Order_keeps : Addr
  fd_Order_keeps : FuncData
  F_Order_keeps : Fun K "keeps" "Order.keeps" s_Order_keeps f_Order_keeps fd_Order_keeps
  b_Order_keeps : Binds K fd_Order_keeps ["self", "saying"] []
  f_Order_first_not_kept : Addr
  fd_Order_first_not_kept : FuncData
  F_Order_first_not_kept : Fun K "_first_not_kept" "Order._first_not_kept" s_Order_first_not_kept f_Order_first_not_kept fd_Order_first_not_kept
  b_Order_first_not_kept : Binds K fd_Order_first_not_kept ["self", "sayings"] []
  f_Order_keeps_all : Addr
  fd_Order_keeps_all : FuncData
  F_Order_keeps_all : Fun K "keeps_all" "Order.keeps_all" s_Order_keeps_all f_Order_keeps_all fd_Order_keeps_all
  b_Order_keeps_all : Binds K fd_Order_keeps_all ["self", "sayings"] []
  f_Order__call : Addr
  fd_Order__call : FuncData
  F_Order__call : Fun K "__call__" "Order.__call__" s_Order__call f_Order__call fd_Order__call
  b_Order__call : Binds K fd_Order__call ["self", "sayings"] []
  f_Order_closed : Addr
  fd_Order_closed : FuncData
  F_Order_closed : Fun K "closed" "Order.closed" s_Order_closed f_Order_closed fd_Order_closed
  b_Order_closed : Binds K fd_Order_closed ["self"] []
  f_l_closed : Addr
  fd_l_closed : FuncData
  F_l_closed : Fun K "_law_closed" "_law_closed" s_l_closed f_l_closed fd_l_closed
  D_l_closed : Df K mg "_law_closed" ["_law_order", "_law_layers_here", "_law_sayings"] f_l_closed fd_l_closed
  f_name_fault : Addr
  fd_name_fault : FuncData
  F_name_fault : Fun K "name_fault" "name_fault" s_name_fault f_name_fault fd_name_fault
  D_name_fault : Df K mg "name_fault" ["name"] f_name_fault fd_name_fault
  f_check_names : Addr
  fd_check_names : FuncData
  F_check_names : Fun K "check_names" "check_names" s_check_names f_check_names fd_check_names
  D_check_names : Df K mg "check_names" ["names"] f_check_names fd_check_names
  f_Marks__init : Addr
  fd_Marks__init : FuncData
  F_Marks__init : Fun K "__init__" "Marks.__init__" s_Marks__init f_Marks__init fd_Marks__init
  b_Marks__init : Binds K fd_Marks__init ["self", "names"] []
  f_l_marks : Addr
  fd_l_marks : FuncData
  F_l_marks : Fun K "_law_marks" "_law_marks" s_l_marks f_l_marks fd_l_marks
  D_l_marks : Df K mg "_law_marks" ["_law_days"] f_l_marks fd_l_marks
  f_within : Addr
  fd_within : FuncData
  F_within : Fun K "within" "within" s_within f_within fd_within
  D_within : Df K mg "within" ["one", "other"] f_within fd_within
  f_has_days : Addr
  fd_has_days : FuncData
  F_has_days : Fun K "has_days" "has_days" s_has_days f_has_days fd_has_days
  D_has_days : Df K mg "has_days" ["marks", "saying"] f_has_days fd_has_days
  f_check_book : Addr
  fd_check_book : FuncData
  F_check_book : Fun K "check_book" "check_book" s_check_book f_check_book fd_check_book
  D_check_book : Df K mg "check_book" ["marks", "sayings"] f_check_book fd_check_book
  f_Book__init : Addr
  fd_Book__init : FuncData
  F_Book__init : Fun K "__init__" "Book.__init__" s_Book__init f_Book__init fd_Book__init
  b_Book__init : Binds K fd_Book__init ["self", "marks", "sayings"] []
  f_check_fitting : Addr
  fd_check_fitting : FuncData
  F_check_fitting : Fun K "check_fitting" "check_fitting" s_check_fitting f_check_fitting fd_check_fitting
  D_check_fitting : Df K mg "check_fitting" ["days", "sayings"] f_check_fitting fd_check_fitting
  f_check_days : Addr
  fd_check_days : FuncData
  F_check_days : Fun K "check_days" "check_days" s_check_days f_check_days fd_check_days
  D_check_days : Df K mg "check_days" ["marks", "sayings"] f_check_days fd_check_days
  f_set_of : Addr
  fd_set_of : FuncData
  F_set_of : Fun K "set_of" "set_of" s_set_of f_set_of fd_set_of
  D_set_of : Df K mg "set_of" ["days"] f_set_of fd_set_of
  f_stay : Addr
  fd_stay : FuncData
  F_stay : Fun K "stay" "stay" s_stay f_stay fd_stay
  D_stay : Df K mg "stay" ["sayings", "room", "placed", "reasons", "heights"] f_stay fd_stay
  f_layer_behind : Addr
  fd_layer_behind : FuncData
  F_layer_behind : Fun K "layer_behind" "layer_behind" s_layer_behind f_layer_behind fd_layer_behind
  D_layer_behind : Df K mg "layer_behind" ["layer", "start", "grown"] f_layer_behind fd_layer_behind
  f_climb : Addr
  fd_climb : FuncData
  F_climb : Fun K "climb" "climb" s_climb f_climb fd_climb
  D_climb : Df K mg "climb" ["sayings", "start"] f_climb fd_climb
  f_Lifted__init : Addr
  fd_Lifted__init : FuncData
  F_Lifted__init : Fun K "__init__" "Lifted.__init__" s_Lifted__init f_Lifted__init fd_Lifted__init
  b_Lifted__init : Binds K fd_Lifted__init ["self", "order", "reasons", "heights"] []
  f_Stuck__init : Addr
  fd_Stuck__init : FuncData
  F_Stuck__init : Fun K "__init__" "Stuck.__init__" s_Stuck__init f_Stuck__init fd_Stuck__init
  b_Stuck__init : Binds K fd_Stuck__init ["self", "days", "reasons", "heights"] []
  f_lift : Addr
  fd_lift : FuncData
  F_lift : Fun K "lift" "lift" s_lift f_lift fd_lift
  dg_lift : mg "lift" = some (.ref f_lift)
  dk_lift : PySem.W.keepIn K (.ref f_lift) = true
  f_law : Addr
  fd_law : FuncData
  F_law : Fun K "law" "law" s_law f_law fd_law
  D_law : Df K mg "law" ["_law_script"] f_law fd_law
  f_BadMarks__init : Addr
  fd_BadMarks__init : FuncData
  F_BadMarks__init : Fun K "__init__" "BadMarks.__init__" s_BadMarks__init f_BadMarks__init fd_BadMarks__init
  b_BadMarks__init : Binds K fd_BadMarks__init ["self", "what", "index"] []
  f_BadSaying__init : Addr
  fd_BadSaying__init : FuncData
  F_BadSaying__init : Fun K "__init__" "BadSaying.__init__" s_BadSaying__init f_BadSaying__init fd_BadSaying__init
  b_BadSaying__init : Binds K fd_BadSaying__init ["self", "what"] []
  f_BadBook__init : Addr
  fd_BadBook__init : FuncData
  F_BadBook__init : Fun K "__init__" "BadBook.__init__" s_BadBook__init f_BadBook__init fd_BadBook__init
  b_BadBook__init : Binds K fd_BadBook__init ["self", "what", "number"] []
  f_OtherDays__init : Addr
  fd_OtherDays__init : FuncData
  F_OtherDays__init : Fun K "__init__" "OtherDays.__init__" s_OtherDays__init f_OtherDays__init fd_OtherDays__init
  b_OtherDays__init : Binds K fd_OtherDays__init ["self"] []
  f_BadOrder__init : Addr
  fd_BadOrder__init : FuncData
  F_BadOrder__init : Fun K "__init__" "BadOrder.__init__" s_BadOrder__init f_BadOrder__init fd_BadOrder__init
  b_BadOrder__init : Binds K fd_BadOrder__init ["self", "what"] []
  M_Book : Mk K (cls 3) f_Book__init
  M_Lifted : Mk K (cls 4) f_Lifted__init
  M_Marks : Mk K (cls 2) f_Marks__init
  M_Order : Mk K (cls 0) f_Order__init
  M_Order_beneath : Meth K (cls 0) "beneath" f_Order_beneath
  M_Order_check_days : Meth K (cls 0) "_check_days" f_Order_check_days
  M_Order_check_length : Meth K (cls 0) "_check_length" f_Order_check_length
  M_Order_closed : Meth K (cls 0) "closed" f_Order_closed
  M_Order_first_not_kept : Meth K (cls 0) "_first_not_kept" f_Order_first_not_kept
  M_Order_keeps : Meth K (cls 0) "keeps" f_Order_keeps
  M_Order_keeps_all : Meth K (cls 0) "keeps_all" f_Order_keeps_all
  M_Order_least : Meth K (cls 0) "least" f_Order_least
  M_Saying : Mk K (cls 1) f_Saying__init
  M_Stuck : Mk K (cls 5) f_Stuck__init
  cl_Book : Cls K (cls 3)
  cl_Lifted : Cls K (cls 4)
  cl_Marks : Cls K (cls 2)
  cl_Order : Cls K (cls 0)
  cl_Saying : Cls K (cls 1)
  cl_Stuck : Cls K (cls 5)
  cty_Lifted : CTy K (cls 4)
  cty_Marks : CTy K (cls 2)
  cty_Order : CTy K (cls 0)
  cty_Saying : CTy K (cls 1)
  cty_Stuck : CTy K (cls 5)
  g_Book : mg "Book" = some (.ref (cls 3))
  g_Lifted : mg "Lifted" = some (.ref (cls 4))
  g_Marks : mg "Marks" = some (.ref (cls 2))
  g_Order : mg "Order" = some (.ref (cls 0))
  g_Saying : mg "Saying" = some (.ref (cls 1))
  g_Stuck : mg "Stuck" = some (.ref (cls 5))
  kc_Stuck_Lifted : PySem.W.kitOne K (.ref (cls 5)) (.ref (cls 4)) = some false
  no_Book_marks : NoAttr K (cls 3) "marks"
  no_Book_sayings : NoAttr K (cls 3) "sayings"
  no_Lifted_heights : NoAttr K (cls 4) "heights"
  no_Lifted_order : NoAttr K (cls 4) "order"
  no_Lifted_reasons : NoAttr K (cls 4) "reasons"
  no_Marks_all_days : NoAttr K (cls 2) "all_days"
  no_Marks_count : NoAttr K (cls 2) "count"
  no_Marks_days : NoAttr K (cls 2) "days"
  no_Marks_names : NoAttr K (cls 2) "names"
  no_Order_layers : NoAttr K (cls 0) "layers"
  no_Saying_broken : NoAttr K (cls 1) "broken"
  no_Saying_confirm : NoAttr K (cls 1) "confirm"
  no_Saying_high : NoAttr K (cls 1) "high"
  no_Saying_low : NoAttr K (cls 1) "low"
  no_Saying_step : NoAttr K (cls 1) "step"
  no_Saying_then : NoAttr K (cls 1) "then"
  no_Saying_usual : NoAttr K (cls 1) "usual"
  no_Saying_where : NoAttr K (cls 1) "where"
  no_Stuck_days : NoAttr K (cls 5) "days"
  no_Stuck_heights : NoAttr K (cls 5) "heights"
  no_Stuck_reasons : NoAttr K (cls 5) "reasons"
  sf_Order : PySem.W.selfFirst K (cls 0) = true
  x_Order__and : PySem.W.findIn K (.ref (cls 0)) "__and__" = some (some (.ref f_Order__and))
  x_Order__call : PySem.W.findIn K (.ref (cls 0)) "__call__" = some (some (.ref f_Order__call))
  x_Order__eq : PySem.W.findIn K (.ref (cls 0)) "__eq__" = some (some (.ref f_Order__eq))
  xf_Order__and : PySem.W.isFn K (.ref f_Order__and) = true
  xf_Order__call : PySem.W.isFn K (.ref f_Order__call) = true
  xf_Order__eq : PySem.W.isFn K (.ref f_Order__eq) = true
  xn_Order__call : PySem.W.fnIn K f_Order__call = true
  z_abs : mg "abs" = none
  z_all : mg "all" = none
  z_bool : mg "bool" = none
  z_enumerate : mg "enumerate" = none
  z_int : mg "int" = none
  z_isinstance : mg "isinstance" = none
  z_len : mg "len" = none
  z_list : mg "list" = none
  z_min : mg "min" = none
  z_range : mg "range" = none
  z_set : mg "set" = none
  z_sorted : mg "sorted" = none
  z_str : mg "str" = none
  z_sum : mg "sum" = none
  z_tuple : mg "tuple" = none
  z_zip : mg "zip" = none
  a_DAY_COUNTS : Addr
  g_DAY_COUNTS : mg "DAY_COUNTS" = some (.ref a_DAY_COUNTS)
  q_DAY_COUNTS : SqT K (fun _ => none) a_DAY_COUNTS ([2, 4, 8, 16].map V.int)
  t_HIGHEST_DAY_SET : Tok
  g_HIGHEST_DAY_SET : mg "HIGHEST_DAY_SET" = some (.int 65535 t_HIGHEST_DAY_SET)
  t_HIGHEST_LAYER : Tok
  g_HIGHEST_LAYER : mg "HIGHEST_LAYER" = some (.int 1000000000000000000000000000000 t_HIGHEST_LAYER)
  a_KEPT_WORDS : Addr
  g_KEPT_WORDS : mg "KEPT_WORDS" = some (.ref a_KEPT_WORDS)
  q_KEPT_WORDS : SqT K (fun _ => none) a_KEPT_WORDS ((["and", "any", "marks", "need", "never", "not", "or", "usually", "where"] : List Str).map V.str)
  t_LONGEST_NAME : Tok
  g_LONGEST_NAME : mg "LONGEST_NAME" = some (.int 8 t_LONGEST_NAME)
  t_MOST_MARKS : Tok
  g_MOST_MARKS : mg "MOST_MARKS" = some (.int 4 t_MOST_MARKS)
  t_MOST_SAYINGS : Tok
  g_MOST_SAYINGS : mg "MOST_SAYINGS" = some (.int 12 t_MOST_SAYINGS)
  E_BadMarks : ErrF2 K mg "BadMarks" "what" "index" (cls 102) f_BadMarks__init fd_BadMarks__init
  xf_BadMarks : XfC K (cls 102)
  xn_BadMarks_what : PySem.W.findIn K (.ref (cls 102)) "what" = some none
  xn_BadMarks_index : PySem.W.findIn K (.ref (cls 102)) "index" = some none
  E_BadSaying : ErrF K mg "BadSaying" "what" (cls 107) f_BadSaying__init fd_BadSaying__init
  xf_BadSaying : XfC K (cls 107)
  xn_BadSaying_what : PySem.W.findIn K (.ref (cls 107)) "what" = some none
  E_BadBook : ErrF2 K mg "BadBook" "what" "number" (cls 109) f_BadBook__init fd_BadBook__init
  xf_BadBook : XfC K (cls 109)
  xn_BadBook_what : PySem.W.findIn K (.ref (cls 109)) "what" = some none
  xn_BadBook_number : PySem.W.findIn K (.ref (cls 109)) "number" = some none
  E_OtherDays : ErrP K mg "OtherDays" (cls 112) f_OtherDays__init fd_OtherDays__init
  xf_OtherDays : XfC K (cls 112)
  E_BadOrder : ErrF K mg "BadOrder" "what" (cls 115) f_BadOrder__init fd_BadOrder__init
  xf_BadOrder : XfC K (cls 115)
  xn_BadOrder_what : PySem.W.findIn K (.ref (cls 115)) "what" = some none
section
variable {P : Program} {w : World} {K : PySem.W.Frag} {mg : Str → Option Value} {base : Heap}
theorem ok_BadMarks__init (Z : Fa K mg) : FnOk P w K mg base CX0 1 Z.f_BadMarks__init Z.fd_BadMarks__init ["self", "what", "index"] (sp_efld2 (Z.cls 102) "what" "index") := ok_fld2 Z.F_BadMarks__init sc_BadMarks__init Z.E_BadMarks.oex Z.xn_BadMarks_what Z.xn_BadMarks_index (fun _ _ _ _ _ _ => pss_cons (ps_ost (pv 0) (pv 1)) (pss_one (ps_ost (pv 0) (pv 2))))
theorem ok_BadSaying__init (Z : Fa K mg) : FnOk P w K mg base CX0 1 Z.f_BadSaying__init Z.fd_BadSaying__init ["self", "what"] (sp_efld (Z.cls 107) "what") := by
  refine Z.F_BadSaying__init.ok sc_BadSaying__init (fun vs H Q E h => ?_) (fun cdv A outer s H vs Q E hr h => ?_)
  · obtain ⟨a, y, rfl, _⟩ := h
    rfl
  · obtain ⟨a, y, rfl, ha, q⟩ := h
    refine ⟨_, pss_one (ps_ost (pv 0) (pv 1)), ?_⟩
    exact ⟨_, rfl, _, rfl, a, Z.cls 107, rfl, Z.E_BadSaying.oex, Z.xn_BadSaying_what, .inl ⟨ha, q⟩⟩
theorem ok_BadBook__init (Z : Fa K mg) : FnOk P w K mg base CX0 1 Z.f_BadBook__init Z.fd_BadBook__init ["self", "what", "number"] (sp_efld2 (Z.cls 109) "what" "number") := ok_fld2 Z.F_BadBook__init sc_BadBook__init Z.E_BadBook.oex Z.xn_BadBook_what Z.xn_BadBook_number (fun _ _ _ _ _ _ => pss_cons (ps_ost (pv 0) (pv 1)) (pss_one (ps_ost (pv 0) (pv 2))))
theorem ok_OtherDays__init (Z : Fa K mg) : FnOk P w K mg base CX0 1 Z.f_OtherDays__init Z.fd_OtherDays__init ["self"] sp_pass := by
  refine Z.F_OtherDays__init.ok sc_OtherDays__init (fun vs H Q E h => ?_) (fun cdv A outer s H vs Q E hr h => ?_)
  · obtain ⟨a, rfl, _⟩ := h
    rfl
  · obtain ⟨a, rfl, q⟩ := h
    exact ⟨_, pss_one ps_pass, q⟩
theorem ok_BadOrder__init (Z : Fa K mg) : FnOk P w K mg base CX0 1 Z.f_BadOrder__init Z.fd_BadOrder__init ["self", "what"] (sp_efld (Z.cls 115) "what") := by
  refine Z.F_BadOrder__init.ok sc_BadOrder__init (fun vs H Q E h => ?_) (fun cdv A outer s H vs Q E hr h => ?_)
  · obtain ⟨a, y, rfl, _⟩ := h
    rfl
  · obtain ⟨a, y, rfl, ha, q⟩ := h
    refine ⟨_, pss_one (ps_ost (pv 0) (pv 1)), ?_⟩
    exact ⟨_, rfl, _, rfl, a, Z.cls 115, rfl, Z.E_BadOrder.oex, Z.xn_BadOrder_what, .inl ⟨ha, q⟩⟩
theorem ok_l_bag (Z : Fa K mg) : FnOk P w K mg base CX0 1 Z.f_l_bag Z.fd_l_bag ["_law_script", "_law_at"] (SpF ⟨K, Z.cls⟩ (fun t : Cn Scr (Cn Int Nl) => w_bag t.a t.r.a)) := by
  refine FnOk.imp (sp := sp_bag0 K) ?_ bag_of
  refine Z.F_l_bag.ok sc_l_bag (fun vs H Q E h => ?_) (fun cdv A outer s H vs Q E hr h => ?_)
  · obtain ⟨a, ns, k, rfl, _⟩ := h
    rfl
  · obtain ⟨a, ns, k, rfl, hS, hl, hk, hk', q⟩ := h
    refine ⟨_, (pss_cons (ps_set (i := 2) sc_l_bag.nd rfl (Or.inl rfl) (pe_ifExp (pt_cmpR op_lt (pv 1) (pe_callB call_len_seq (by rfl) Z.z_len (by decide +kernel) (pa_cons (pv 0) pa_nil)) (nomark _)) (pe_callB call_abs (by rfl) Z.z_abs (by decide +kernel) (pa_cons (pe_ix ix_list (pv 0) (pv 1) (fun _ _ => rfl)) pa_nil)) pe_int))
        (pss_cons (ps_set (i := 3) sc_l_bag.nd rfl (Or.inl rfl) (pe_op op_add pe_int (pe_op op_mul pe_int (pv 1))))
        (pss_cons (ps_for PassesOwn.never rfl (pi_enum (by rfl) Z.z_enumerate (pa_cons (pe_slice sl_list (pv 0) po_none (po_some pe_int)) pa_nil)) (pg_tup rfl (pgs_cons (pg_name (i := 4) sc_l_bag.nd rfl (Or.inl rfl)) (pgs_cons (pg_name (i := 5) sc_l_bag.nd rfl (Or.inl rfl)) pgs_nil))) (pss_one (ps_set (i := 3) sc_l_bag.nd rfl (Or.inl rfl) (pe_op op_mod (pe_callTy call_int1 (by rfl) Z.z_int (by decide +kernel) (pa_cons (pe_op op_add (pe_op op_add (pe_op op_add (pe_op op_mul (pv 3) pe_int) (pe_op op_mod (pe_callTy call_int1 (by rfl) Z.z_int (by decide +kernel) (pa_cons (pv 5) pa_nil)) pe_int)) (pe_op op_mul pe_int (pv 4))) pe_int) pa_nil)) pe_int))))
        (pss_one (ps_ret (pe_lst (pa_cons (pe_ifExp (pt_cmpR op_ge (pv 2) (pe_op op_pow pe_int pe_int) (nomark _)) (pv 2) pe_int) (pa_cons (pv 3) (pa_cons pe_int pa_nil))))))))), ?_⟩
    refine bag_asg (R := fun v H' => ∃ c : Int, v = .int c ∧ 0 ≤ c ∧ H' = H) (fun Q' q' => ?_) fun v H' ⟨c, e, hc, eH⟩ => ?_
    · refine ⟨_, rfl, _, rfl, _, _, rfl, .inl hS, _, _, rfl, rfl, _, rfl, ?_⟩
      refine ite2 (fun z => ?_) (fun z => ?_)
      · have z' : k < ((ns.map V.int).length : Int) := of_decide_eq_true z
        obtain ⟨j, rfl⟩ := Int.eq_ofNat_of_zero_le hk
        rw [List.length_map] at z'
        have hj : j < ns.length := by omega
        refine ⟨_, rfl, _, rfl, _, _, _, _, rfl, rfl, hS, atI_nat (by rw [List.getElem?_map, List.getElem?_eq_getElem hj]; rfl), _, rfl, ?_⟩
        refine q' _ _ ⟨_, rfl, ?_, rfl⟩
        split <;> omega
      · exact q' _ _ ⟨0, rfl, Int.le_refl _, rfl⟩
    · subst e eH
      refine ⟨_, rfl, _, _, rfl, rfl, .inl ⟨by decide, by decide⟩, _, _, rfl, rfl, ?_⟩
      refine ⟨_, rfl, _, rfl, _, _, rfl, hS, fun p hp => ?_⟩
      obtain ⟨ms, em, hm⟩ := bag_cut ns (some 63)
      have hp2 : (upd H' p (.lst (cutV (ns.map V.int) none (some 63)))) p = some (.lst (ms.map V.int)) := by rw [upd_same, em]
      have new : ∀ (H : Hp) (p : Addr) (o : HO), H p = none → Same H (upd H p o) := fun H p o n a u e => by rw [upd_ne (ne_of_none e n)]; exact e
      refine ⟨p, _, rfl, SqL.of hp2, for_it (walk_enum (K := K) (a := p) (xs := ms.map V.int)) (fun i σ H2 => ∃ (mix : Int) (u v : Option V), σ = [some (.ref a), some (.int k), some (.int c), some (.int mix), u, v] ∧ 0 ≤ mix ∧ mix < 2 ^ 40 ∧ Same H' H2 ∧ H2 p = some (.lst (ms.map V.int))) ?_ (fun i σ H2 _ ⟨_, _, _, _, _, _, _, h⟩ => SqL.of h) ?_ ?_⟩
      · refine ⟨52361 + 8087 * k, none, none, rfl, by omega, by omega, new _ _ _ hp, hp2⟩
      · rintro i x σ H2 H3 hi ⟨mix, u, v, rfl, h0, h1, s2, h2⟩ ⟨t, x1, x2, rfl, ht, rfl, e1, e2⟩
        cases e1
        obtain ⟨z, rfl, _⟩ := bag_at e2
        have hi' : i < 63 := by rw [List.length_map] at hi; omega
        refine ⟨t, _, rfl, SqT.of upd_same, rfl, _, _, rfl, _, _, rfl, rfl, ?_⟩
        refine ⟨_, rfl, _, _, rfl, rfl, .inr ⟨by decide, by decide⟩, ?_⟩
        refine ⟨_, rfl, .inl ⟨_, rfl, _, _, rfl, rfl, (by show (0 : Int) < 2147483629; decide), ?_⟩⟩
        refine ⟨_, _, rfl, rfl, _, rfl, _, _, rfl, rfl, .inl ⟨by decide, by decide⟩, ?_⟩
        refine ⟨_, _, rfl, rfl, _, _, rfl, rfl, .inl ⟨_, rfl, _, _, rfl, rfl, (by show (0 : Int) < 2147483587; decide), ?_⟩⟩
        refine ⟨_, _, _, rfl, Int.emod_nonneg _ (by decide), Int.lt_trans (Int.emod_lt_of_pos _ (by decide)) (by decide), fun a u e => new _ _ _ ht a u (s2 a u e), ?_⟩
        rw [upd_ne (ne_of_none h2 ht)]
        exact h2
      · rintro σ H2 ⟨mix, u, v, rfl, h0, h1, s2, h2⟩
        dsimp only
        refine bag_ret (R := fun v H' => ∃ c : Int, v = .int c ∧ 0 ≤ c ∧ H' = H2) (fun Q' q' => ?_) fun v H' ⟨c, e, hc, eH⟩ => ?_
        · refine ⟨_, rfl, _, _, rfl, rfl, ⟨by decide, by decide, by decide⟩, _, _, rfl, rfl, _, rfl, ?_⟩
          refine ite2 (fun z => ?_) (fun z => ?_)
          · exact ⟨_, rfl, q' _ _ ⟨_, rfl, hc, rfl⟩⟩
          · exact q' _ _ ⟨0, rfl, Int.le_refl _, rfl⟩
        · subst e eH
          refine ⟨_, rfl, (by show 3 ≤ sizeLine; decide), fun b hb => q b _ _ s2 hb ⟨c, mix, 0, rfl, hc, h0, h1, Int.le_refl _⟩⟩
theorem ok_l_take (Z : Fa K mg) : FnOk P w K mg base CX0 1 Z.f_l_take Z.fd_l_take ["_law_bag_here", "_law_many"] (SpF ⟨K, Z.cls⟩ (fun t : Cn Bag (Cn Int Nl) => w_take t.a t.r.a)) := by
  refine FnOk.imp (sp := sp_take0) ?_ take_of
  refine Z.F_l_take.ok sc_l_take (fun vs H Q E h => ?_) (fun cdv A outer s H vs Q E hr h => ?_)
  · obtain ⟨b, k, rfl, _⟩ := h
    rfl
  · obtain ⟨b, k, rfl, ⟨o, hb, c, m, n, eo, hc, hm, hm', hn⟩, hk, hk', q⟩ := h
    subst eo
    have up : ∀ (H : Hp) (o : HO), Keep b H (upd H b o) := fun H o a u n e => by rw [upd_ne n]; exact e
    refine ⟨_, (pss_cons (ps_if (pt_cmpR op_gt (pe_ix ix_list (pv 0) pe_int (fun _ _ => rfl)) pe_int (nomark _)) (pss_cons (ps_set (i := 2) sc_l_take.nd rfl (Or.inl rfl) (pe_op op_mod (pe_callTy call_int1 (by rfl) Z.z_int (by decide +kernel) (pa_cons (pe_ix ix_list (pv 0) pe_int (fun _ _ => rfl)) pa_nil)) (pv 1)))
        (pss_cons (ps_asg (pe_op op_fdivW (pe_ix ix_list (pv 0) pe_int (fun _ _ => rfl)) (pv 1)) (pg_sub (pv 0) pe_int set_list))
        (pss_one (ps_ret (pv 2))))) pss_nil)
        (pss_cons (ps_asg (pe_op op_add (pe_ix ix_list (pv 0) pe_int (fun _ _ => rfl)) pe_int) (pg_sub (pv 0) pe_int set_list))
        (pss_cons (ps_asg (pe_op op_mod (pe_callTy call_int1 (by rfl) Z.z_int (by decide +kernel) (pa_cons (pe_op op_add (pe_op op_add (pe_op op_mul (pe_ix ix_list (pv 0) pe_int (fun _ _ => rfl)) pe_int) (pe_op op_mul pe_int (pe_ix ix_list (pv 0) pe_int (fun _ _ => rfl)))) pe_int) pa_nil)) pe_int) (pg_sub (pv 0) pe_int set_list))
        (pss_one (ps_ret (pe_op op_mod (pe_op op_fdivW (pe_op op_mod (pe_callTy call_int1 (by rfl) Z.z_int (by decide +kernel) (pa_cons (pe_op op_mul (pe_ix ix_list (pv 0) pe_int (fun _ _ => rfl)) pe_int) pa_nil)) pe_int) pe_int) (pv 1))))))), ?_⟩
    refine ⟨_, rfl, _, _, _, _, rfl, rfl, SqL.of hb, rfl, _, _, rfl, rfl, _, rfl, ?_⟩
    refine ite2 (fun z => ?_) (fun z => ?_)
    · have z' : 0 < c := of_decide_eq_true z
      refine ⟨_, rfl, _, _, _, _, rfl, rfl, SqL.of hb, rfl, .inl ⟨_, rfl, _, rfl, _, _, rfl, rfl, hk, ?_⟩⟩
      refine ⟨_, rfl, _, _, _, _, rfl, rfl, SqL.of hb, rfl, _, rfl, _, _, rfl, rfl, wide_div hk (b := 8000) (by omega) (by decide) (by decide), ?_⟩
      refine ⟨_, rfl, _, _, _, _, rfl, rfl, hb, rfl, ?_⟩
      refine ⟨_, rfl, ?_⟩
      refine q _ _ (Int.emod_nonneg _ (by omega)) (Int.emod_lt_of_pos _ hk) ⟨_, upd_same, c / k, m, n, rfl, Int.ediv_nonneg hc (by omega), hm, hm', hn⟩ (up _ _)
    · refine ⟨_, rfl, _, _, _, _, rfl, rfl, SqL.of hb, rfl, _, _, rfl, rfl, ?_⟩
      refine ⟨_, rfl, _, _, _, _, rfl, rfl, hb, rfl, ?_⟩
      have hb2 : (upd H b (.lst ([V.int c, V.int m, V.int n].set 2 (V.int (n + 1))))) b = some (.lst [V.int c, V.int m, V.int (n + 1)]) := upd_same
      refine ⟨_, rfl, _, _, _, _, rfl, rfl, SqL.of hb2, rfl, _, _, rfl, rfl, .inr ⟨by decide, by decide⟩, ?_⟩
      refine ⟨_, rfl, _, _, _, _, rfl, rfl, SqL.of hb2, rfl, _, _, rfl, rfl, .inl ⟨by decide, by decide⟩, ?_⟩
      refine ⟨_, _, rfl, rfl, _, _, rfl, rfl, .inl ⟨_, rfl, _, _, rfl, rfl, (by show (0 : Int) < 2147483399; decide), ?_⟩⟩
      refine ⟨_, rfl, _, _, _, _, rfl, rfl, hb2, rfl, ?_⟩
      have h0 : 0 ≤ (m * 40692 + 29 * (n + 1) + 11) % 2147483399 := Int.emod_nonneg _ (by decide)
      have h1 : (m * 40692 + 29 * (n + 1) + 11) % 2147483399 < 2147483399 := Int.emod_lt_of_pos _ (by decide)
      have hb3 : (upd (upd H b (.lst ([V.int c, V.int m, V.int n].set 2 (V.int (n + 1))))) b (.lst ([V.int c, V.int m, V.int (n + 1)].set 1 (V.int ((m * 40692 + 29 * (n + 1) + 11) % 2147483399))))) b = some (.lst [V.int c, V.int ((m * 40692 + 29 * (n + 1) + 11) % 2147483399), V.int (n + 1)]) := upd_same
      refine ⟨_, rfl, _, _, _, _, rfl, rfl, SqL.of hb3, rfl, _, _, rfl, rfl, .inr ⟨by decide, by decide⟩, .inl ⟨_, rfl, ?_⟩⟩
      refine ⟨_, _, rfl, rfl, (by show (0 : Int) < 2147483647; decide), _, _, rfl, rfl, wide_div (by decide) (b := 8) (by decide) (by decide) (by decide), ?_⟩
      refine ⟨_, rfl, _, _, rfl, rfl, hk, ?_⟩
      exact q _ _ (Int.emod_nonneg _ (by omega)) (Int.emod_lt_of_pos _ hk) ⟨_, hb3, c, _, n + 1, rfl, hc, h0, by omega, by omega⟩ (fun a u ne e => up _ _ a u ne (up _ _ a u ne e))
theorem ok_l_of (Z : Fa K mg) : FnOk P w K mg base (L2.CX P w) 3 Z.f_l_of Z.fd_l_of ["_law_bag_here", "_law_some"] (SpF ⟨K, Z.cls⟩ (fun t : (Cn Bag (Cn (Bor Int) Nl)) => w_l_of t.a t.r.a)) := by
  refine def_ok _ Z.F_l_of sc_l_of rfl (by decide) fun cdv A outer s H E A0 Er t hr => ?_
  obtain ⟨a_bag_here, a_some, ⟨⟩⟩ := t
  refine ⟨_, (pss_one (ps_ret (pe_ix ix_list (pv 1) (pe_call (ok_l_take Z) (hr.mono (by decide)) (by rfl) Z.D_l_take.g Z.D_l_take.kp Z.D_l_take.b .nil pass0 (pa_cons (pv 0) (pa_cons (pe_callB call_len_seq (by rfl) Z.z_len (by decide +kernel) (pa_cons (pv 1) pa_nil)) pa_nil))) (fun _ _ => rfl)))), ?_⟩
  show BodyOk _ _ [.fx Bag a_bag_here, .bo Int a_some.l] (w_l_of a_bag_here a_some)
  exact bo_ret (Δ := fun _ : Unit => [.un, .un]) (ΔL := fun e : Empty => e.elim) (st_ret (ev_op ov_ixL ev_bo (ev_call (ea_cons ev_var (ea_cons (ev_ca1 cv_lenL ev_bo) ea_nil)))))
theorem ok_l_layers (Z : Fa K mg) : FnOk P w K mg base (L2.CX P w) 5 Z.f_l_layers Z.fd_l_layers ["_law_bag_here", "_law_days"] (SpF ⟨K, Z.cls⟩ (fun t : (Cn Bag (Cn Int Nl)) => w_l_layers t.a t.r.a)) := by
  refine def_ok _ Z.F_l_layers sc_l_layers rfl (by decide) fun cdv A outer s H E A0 Er t hr => ?_
  obtain ⟨a_bag_here, a_days, ⟨⟩⟩ := t
  refine ⟨_, (pss_cons (ps_set (i := 2) sc_l_layers.nd rfl (Or.inr rfl) (pe_call (ok_l_of Z) (hr.mono (by decide)) (by rfl) Z.D_l_of.g Z.D_l_of.kp Z.D_l_of.b .nil (pass_of (E := E) (takes_of rfl rfl rfl rfl)) (pa_cons (pv 0) (pa_cons (pe_lst (pa_cons pe_int (pa_cons pe_int (pa_cons pe_int (pa_cons pe_int (pa_cons pe_int pa_nil)))))) pa_nil))))
        (pss_cons (ps_setLc (i := 3) (own := [("_law_k", 8)]) (g := gName 8) (tt := tYes) rfl sc_l_layers.nd rfl rfl (sw_true rfl rfl rfl (by decide +kernel)) (pi_range1 (by rfl) Z.z_range (pa_cons (pv 1) pa_nil)) (blkOk_by (N := N_l_layers) (sc := defScope s_l_layers) (by decide +kernel)) (fun _ _ _ _ _ => (pg_name (i := 8) sc_l_layers.nd rfl (Or.inl rfl))) (fun _ _ _ _ _ => pts_nil) (fun _ _ _ _ _ => (pe_call (ok_l_take Z) (hr.mono (by decide)) (by rfl) Z.D_l_take.g Z.D_l_take.kp Z.D_l_take.b .nil pass0 (pa_cons (pv 0) (pa_cons (pe_op op_add (pv 2) pe_int) pa_nil)))))
        (pss_cons (ps_set (i := 4) sc_l_layers.nd rfl (Or.inr rfl) (pe_callB (cr_min rfl) (by rfl) Z.z_min (by decide +kernel) (pa_cons (pv 3) pa_nil)))
        (pss_cons (ps_setLc (i := 3) (own := [("_law_layer", 9)]) (g := gName 9) (tt := tYes) rfl sc_l_layers.nd rfl rfl (sw_true rfl rfl rfl (by decide +kernel)) (pi_list (pv 3)) (blkOk_by (N := N_l_layers) (sc := defScope s_l_layers) (by decide +kernel)) (fun _ _ _ _ _ => (pg_name (i := 9) sc_l_layers.nd rfl (Or.inl rfl))) (fun _ _ _ _ _ => pts_nil) (fun _ _ _ _ _ => (pe_op op_sub (pv 9) (pv 4))))
        (pss_cons (ps_if (pt_cmpR op_gt (pe_call (ok_l_take Z) (hr.mono (by decide)) (by rfl) Z.D_l_take.g Z.D_l_take.kp Z.D_l_take.b .nil pass0 (pa_cons (pv 0) (pa_cons pe_int pa_nil))) pe_int (nomark _)) (pss_one (ps_ret (pv 3))) pss_nil)
        (pss_cons (ps_set (i := 5) sc_l_layers.nd rfl (Or.inl rfl) (pe_op op_add pe_int (pe_call (ok_l_take Z) (hr.mono (by decide)) (by rfl) Z.D_l_take.g Z.D_l_take.kp Z.D_l_take.b .nil pass0 (pa_cons (pv 0) (pa_cons (pe_op op_pow pe_int pe_int) pa_nil)))))
        (pss_cons (ps_set (i := 6) sc_l_layers.nd rfl (Or.inl rfl) (pe_op op_add (pe_op op_add (pv 5) pe_int) (pe_call (ok_l_take Z) (hr.mono (by decide)) (by rfl) Z.D_l_take.g Z.D_l_take.kp Z.D_l_take.b .nil pass0 (pa_cons (pv 0) (pa_cons (pe_op op_pow pe_int pe_int) pa_nil)))))
        (pss_cons (ps_set (i := 7) sc_l_layers.nd rfl (Or.inr rfl) (pe_lst (pa_cons pe_int (pa_cons (pv 5) (pa_cons (pv 6) (pa_cons (pe_call (ok_l_of Z) (hr.mono (by decide)) (by rfl) Z.D_l_of.g Z.D_l_of.kp Z.D_l_of.b .nil (pass_of (E := E) (takes_of rfl rfl rfl rfl)) (pa_cons (pv 0) (pa_cons (pe_lst (pa_cons (pe_op op_add (pv 6) pe_int) (pa_cons (pe_op op_pow pe_int pe_int) pa_nil))) pa_nil))) pa_nil))))))
        (pss_one (ps_ret (pe_lc (own := [("_law_layer", 9)]) (g := gName 9) (tt := tYes) rfl sc_l_layers.nd (pi_list (pv 3)) (blkOk_by (N := N_l_layers) (sc := defScope s_l_layers) (by decide +kernel)) (fun _ _ _ _ _ => (pg_name (i := 9) sc_l_layers.nd rfl (Or.inl rfl))) (fun _ _ _ _ _ => pts_nil) (fun _ _ _ _ _ => (pe_ix (ix_listK (K := K) rfl) (pv 7) (pv 9) (fun _ _ => rfl)))))))))))))), ?_⟩
  show BodyOk _ _ [.fx Bag a_bag_here, .fx Int a_days, .un, .un, .un, .un, .un, .un, .un, .un] (w_l_layers a_bag_here a_days)
  exact bo_ret (Δ := fun _ : Unit => [.un, .un, .un, .un, .un, .un, .un, .un, .un, .un]) (ΔL := fun e : Empty => e.elim) (st_seq (Δ1 := fun v1_s : Int => [.fx Bag a_bag_here, .fx Int a_days, .fx Int v1_s, .un, .un, .un, .un, .un, .un, .un]) (st_set (i := 2) (ev_call (ea_cons ev_var (ea_cons (ev_bor (ev_fr (ef_lst (es_cons ev_int (es_cons ev_int (es_cons ev_int (es_cons ev_int (es_cons ev_int es_nil)))))))) ea_nil))))
        fun v1_s => (st_seq (Δ1 := fun v3_s : (List Int) => [.fx Bag a_bag_here, .fx Int a_days, .fx Int v1_s, .fx (List Int) v3_s, .un, .un, .un, .un, .un, .un]) (st_set (i := 3) (ev_fr (ef_comp (ei_range1 ev_var eg_name) (fun _ => eb_yes) (fun v2_x => (ev_call (ea_cons ev_var (ea_cons (ev_op ov_add ev_var ev_int) ea_nil)))))))
        fun v3_s => (st_seq (Δ1 := fun v4_s : Int => [.fx Bag a_bag_here, .fx Int a_days, .fx Int v1_s, .fx (List Int) v3_s, .fx Int v4_s, .un, .un, .un, .un, .un]) (st_set (i := 4) (ev_ca1 cv_min (ev_bor ev_var)))
        fun v4_s => (st_seq (Δ1 := fun v6_s : (List Int) => [.fx Bag a_bag_here, .fx Int a_days, .fx Int v1_s, .fx (List Int) v6_s, .fx Int v4_s, .un, .un, .un, .un, .un]) (st_set (i := 3) (ev_fr (ef_comp (ei_list (es_list ev_var) eg_name) (fun _ => eb_yes) (fun v5_x => (ev_op ov_sub ev_var ev_var)))))
        fun v6_s => (st_seq (Δ1 := fun v7_s : Unit => [.fx Bag a_bag_here, .fx Int a_days, .fx Int v1_s, .fx (List Int) v6_s, .fx Int v4_s, .un, .un, .un, .un, .un]) (st_if (eb_test (ev_op ov_gt (ev_call (ea_cons ev_var (ea_cons ev_int ea_nil))) ev_int)) (st_ret ev_var) (st_nil () (Le.eq (Le.eq (Le.eq (Le.eq (Le.eq (Le.eq (Le.eq (Le.eq (Le.eq (Le.eq Le.nil))))))))))))
        fun v7_s => (st_seq (Δ1 := fun v8_s : Int => [.fx Bag a_bag_here, .fx Int a_days, .fx Int v1_s, .fx (List Int) v6_s, .fx Int v4_s, .fx Int v8_s, .un, .un, .un, .un]) (st_set (i := 5) (ev_op ov_add ev_int (ev_call (ea_cons ev_var (ea_cons (ev_op ov_pow ev_int ev_int) ea_nil)))))
        fun v8_s => (st_seq (Δ1 := fun v9_s : Int => [.fx Bag a_bag_here, .fx Int a_days, .fx Int v1_s, .fx (List Int) v6_s, .fx Int v4_s, .fx Int v8_s, .fx Int v9_s, .un, .un, .un]) (st_set (i := 6) (ev_op ov_add (ev_op ov_add ev_var ev_int) (ev_call (ea_cons ev_var (ea_cons (ev_op ov_pow ev_int ev_int) ea_nil)))))
        fun v9_s => (st_seq (Δ1 := fun v10_s : (List Int) => [.fx Bag a_bag_here, .fx Int a_days, .fx Int v1_s, .fx (List Int) v6_s, .fx Int v4_s, .fx Int v8_s, .fx Int v9_s, .fx (List Int) v10_s, .un, .un]) (st_set (i := 7) (ev_fr (ef_lst (es_cons ev_int (es_cons ev_var (es_cons ev_var (es_cons (ev_call (ea_cons ev_var (ea_cons (ev_bor (ev_fr (ef_lst (es_cons (ev_op ov_add ev_var ev_int) (es_cons (ev_op ov_pow ev_int ev_int) es_nil))))) ea_nil))) es_nil)))))))
        fun v10_s => (st_ret (ev_fr (ef_comp (ei_list (es_list ev_var) eg_name) (fun _ => eb_yes) (fun v11_x => (ev_op ov_ixL (ev_bor ev_var) ev_var)))))))))))))
theorem ok_is_number (Z : Fa K mg) : FnOk P w K mg base (L2.CX P w) 1 Z.f_is_number Z.fd_is_number ["thing"] (SpF ⟨K, Z.cls⟩ (fun t : (Cn Int Nl) => w_is_number t.a)) := by
  refine def_ok _ Z.F_is_number sc_is_number rfl (by decide) fun cdv A outer s H E A0 Er t hr => ?_
  obtain ⟨a_thing, ⟨⟩⟩ := t
  refine ⟨_, (pss_one (ps_ret (pe_and (pe_callB call_isi (by rfl) Z.z_isinstance (by decide +kernel) (pa_cons (pv 0) (pa_cons (pe_bltn (v := .ty "int") (by rfl) Z.z_int (by decide +kernel) rfl) pa_nil))) (pe_one (pe_not (pe_callB call_isi (by rfl) Z.z_isinstance (by decide +kernel) (pa_cons (pv 0) (pa_cons (pe_bltn (v := .ty "bool") (by rfl) Z.z_bool (by decide +kernel) rfl) pa_nil)))))))), ?_⟩
  show BodyOk _ _ [.fx Int a_thing] (w_is_number a_thing)
  exact bo_ret (Δ := fun _ : Unit => [.un]) (ΔL := fun e : Empty => e.elim) (st_ret (ev_and (ev_isi kd_int (fun _ => true) (.ty "int") (fun _ => (kit_ty (by decide +kernel))) ev_var) (ev_not (ev_isi kd_int (fun _ => false) (.ty "bool") (fun _ => (kit_ty (by decide +kernel))) ev_var))))
theorem ok_is_whole (Z : Fa K mg) : FnOk P w K mg base (L2.CX P w) 3 Z.f_is_whole Z.fd_is_whole ["thing", "low", "high"] (SpF ⟨K, Z.cls⟩ (fun t : (Cn Int (Cn Int (Cn Int Nl))) => w_is_whole t.a t.r.a t.r.r.a)) := by
  refine def_ok _ Z.F_is_whole sc_is_whole rfl (by decide) fun cdv A outer s H E A0 Er t hr => ?_
  obtain ⟨a_thing, a_low, a_high, ⟨⟩⟩ := t
  refine ⟨_, (pss_one (ps_ret (pe_and (pe_call (ok_is_number Z) (hr.mono (by decide)) (by rfl) Z.D_is_number.g Z.D_is_number.kp Z.D_is_number.b .nil (pass_of (E := E) (takes_of rfl rfl rfl rfl)) (pa_cons (pv 0) pa_nil)) (pe_one (pe_chain op_le op_le (pv 1) (pv 0) (pv 2)))))), ?_⟩
  show BodyOk _ _ [.fx Int a_thing, .fx Int a_low, .fx Int a_high] (w_is_whole a_thing a_low a_high)
  exact bo_ret (Δ := fun _ : Unit => [.un, .un, .un]) (ΔL := fun e : Empty => e.elim) (st_ret (ev_and (ev_call (ea_cons ev_var ea_nil)) (ev_chain ov_le ov_le ev_var ev_var ev_var)))
theorem ok_check_layers (Z : Fa K mg) : FnOk P w K mg base (L2.CX P w) 5 Z.f_check_layers Z.fd_check_layers ["layers"] (SpF ⟨K, Z.cls⟩ (fun t : (Cn (Bor Int) Nl) => w_check_layers t.a)) := by
  refine def_ok _ Z.F_check_layers sc_check_layers rfl (by decide) fun cdv A outer s H E A0 Er t hr => ?_
  obtain ⟨a_layers, ⟨⟩⟩ := t
  refine ⟨_, (pss_cons (ps_if (PW.pt (pw_or (pt_not (pt_val (pe_callB call_isiT (by rfl) Z.z_isinstance (by decide +kernel) (pa_cons (pv 0) (pa_cons (pe_tup (pa_cons (pe_bltn (v := .ty "list") (by rfl) Z.z_list (by decide +kernel) rfl) (pa_cons (pe_bltn (v := .ty "tuple") (by rfl) Z.z_tuple (by decide +kernel) rfl) pa_nil))) pa_nil))))) (pw_or1 (pt_cmpR op_notIn_seq (pe_callB call_len_seq (by rfl) Z.z_len (by decide +kernel) (pa_cons (pv 0) pa_nil)) (pe_glob (v := .ref Z.a_DAY_COUNTS) (by rfl) Z.g_DAY_COUNTS rfl) (by rfl))))) (pss_one (ps_raise rfl (takes_of rfl rfl rfl rfl) (pmk_fld Z.E_BadOrder.oex Z.E_BadOrder.iC Z.E_BadOrder.tI ((ok_BadOrder__init Z)) (hr.mono (by decide)) Z.E_BadOrder.b (by rfl) Z.E_BadOrder.g pe_str))) pss_nil)
        (pss_cons (ps_for (passes_of rfl) rfl (pi_list (pv 0)) (pg_name (i := 1) sc_check_layers.nd rfl (Or.inl rfl)) (pss_cons (ps_if (pt_not (pt_val (pe_call (ok_is_whole Z) (hr.mono (by decide)) (by rfl) Z.D_is_whole.g Z.D_is_whole.kp Z.D_is_whole.b .nil (pass_of (E := E) (takes_of rfl rfl rfl rfl)) (pa_cons (pv 1) (pa_cons pe_int (pa_cons (pe_glob (v := .int 1000000000000000000000000000000) (by rfl) Z.g_HIGHEST_LAYER ⟨_, rfl⟩) pa_nil)))))) (pss_one (ps_raise rfl (takes_of rfl rfl rfl rfl) (pmk_fld Z.E_BadOrder.oex Z.E_BadOrder.iC Z.E_BadOrder.tI ((ok_BadOrder__init Z)) (hr.mono (by decide)) Z.E_BadOrder.b (by rfl) Z.E_BadOrder.g pe_str))) pss_nil)
        pss_nil))
        pss_nil)), ?_⟩
  show BodyOk _ _ [.bo Int a_layers.l, .un] (w_check_layers a_layers)
  exact bo_nx (Δ := fun _ : Unit => [.un, .un]) (ΔL := fun e : Empty => e.elim) (st_seq (Δ1 := fun v1_s : Unit => [.bo Int a_layers.l, .un]) (st_if (eb_or (eb_not (eb_val (ev_isi2 kd_bor (fun _ => true) (.ty "list") (.ty "tuple") (fun _ => kit2 (b1 := true) (b2 := false) (kit_ty (by decide +kernel)) (kit_ty (by decide +kernel))) ev_bo))) (eb_test (ev_op ov_notinT (ev_ca1 cv_lenL ev_bo) (ev_ctup (ctupI Z.q_DAY_COUNTS))))) (st_raise1 115 "what" ev_str) (st_nil () (Le.eq (Le.eq Le.nil))))
        fun v1_s => (st_seq (Δ1 := fun v5_s : Unit => [.bo Int a_layers.l, .un]) (st_for (Δ := fun v3_s : Unit => [.bo Int a_layers.l, .un]) () (ei_list es_bo eg_name) (Le.eq (Le.eq Le.nil)) (fun _ => rfl) fun v2_x v3_s => (st_seq (Δ1 := fun v4_s : Unit => [.bo Int a_layers.l, .fx Int v2_x]) (st_if (eb_not (eb_val (ev_call (ea_cons ev_var (ea_cons ev_int (ea_cons ev_int ea_nil)))))) (st_raise1 115 "what" ev_str) (st_nil () (Le.eq (Le.eq Le.nil))))
        fun v4_s => (st_nil () (Le.eq (Le.un Le.nil)))))
        fun v5_s => (st_nil () (Le.un (Le.eq Le.nil)))))
theorem ok_Order__init (Z : Fa K mg) : FnOk P w K mg base (L2.CX P w) 7 Z.f_Order__init Z.fd_Order__init ["self", "layers"] (SpI ⟨K, Z.cls⟩ (fun t : (Cn (Bor Int) Nl) => w_Order__init t.a)) := by
  refine init_ok2 _ Z.F_Order__init sc_Order__init rfl (by decide) fun cdv A outer s H E A0 H0 Er x t hr => ?_
  obtain ⟨a_layers, ⟨⟩⟩ := t
  exact ⟨_, (pss_cons (ps_expr (pe_call (ok_check_layers Z) (hr.mono (by decide)) (by rfl) Z.D_check_layers.g Z.D_check_layers.kp Z.D_check_layers.b .nil (pass_of (E := E) (takes_of rfl rfl rfl rfl)) (pa_cons (pv 1) pa_nil)))
        (pss_cons (ps_if (pt_cmpR op_notIn_seq pe_int (pv 1) (by rfl)) (pss_one (ps_raise rfl (takes_of rfl rfl rfl rfl) (pmk_fld Z.E_BadOrder.oex Z.E_BadOrder.iC Z.E_BadOrder.tI ((ok_BadOrder__init Z)) (hr.mono (by decide)) Z.E_BadOrder.b (by rfl) Z.E_BadOrder.g pe_str))) pss_nil)
        (pss_cons (ps_fld (pv 0) (pe_callTy call_tuple_of (by rfl) Z.z_tuple (by decide +kernel) (pa_cons (pv 1) pa_nil)) rfl)
        pss_nil))), _, (st_seq (Δ1 := fun v1_s : Unit => [.ob 0 x [], .bo Int a_layers.l]) (st_drop (ev_call (ea_cons ev_bo ea_nil)))
        fun v1_s => (st_seq (Δ1 := fun v2_s : Unit => [.ob 0 x [], .bo Int a_layers.l]) (st_if (eb_test (ev_op ov_notinL ev_int ev_bo)) (st_raise1 115 "what" ev_str) (st_nil () (Le.eq (Le.eq Le.nil))))
        fun v2_s => (st_seq (Δ1 := fun v3_s : (Tup Int) => [.ob 0 x [⟨"layers", (Tup Int), inferInstance, v3_s⟩], .bo Int a_layers.l]) (st_fld (i := 0) (C := 0) (x := x) (fs := []) Z.cl_Order Z.no_Order_layers (ev_ca1 cv_tupL ev_bo) rfl (by first | decide | simp))
        fun v3_s => (st_nil ((Order.mk v3_s : Order)) (by repeat first | exact Le.nil | apply Le.un | apply Le.eq))))), rfl⟩
theorem ok_Order_check_length (Z : Fa K mg) : FnOk P w K mg base (L2.CX P w) 3 Z.f_Order_check_length Z.fd_Order_check_length ["self", "other"] (SpF ⟨K, Z.cls⟩ (fun t : (Cn Order (Cn Order Nl)) => w_Order_check_length t.a t.r.a)) := by
  refine def_ok _ Z.F_Order_check_length sc_Order_check_length rfl (by decide) fun cdv A outer s H E A0 Er t hr => ?_
  obtain ⟨a_self, a_other, ⟨⟩⟩ := t
  refine ⟨_, (pss_cons (ps_if (pt_cmpR op_ne (pe_callB call_len_seq (by rfl) Z.z_len (by decide +kernel) (pa_cons (pe_fld (pv 0) rfl) pa_nil)) (pe_callB call_len_seq (by rfl) Z.z_len (by decide +kernel) (pa_cons (pe_fld (pv 1) rfl) pa_nil)) (nomark _)) (pss_one (ps_raise rfl (takes_of rfl rfl rfl rfl) (pmk_pass Z.E_OtherDays.oex Z.E_OtherDays.iC Z.E_OtherDays.tI (ok_OtherDays__init Z) (hr.mono (by decide)) Z.E_OtherDays.b (by rfl) Z.E_OtherDays.g))) pss_nil)
        pss_nil), ?_⟩
  show BodyOk _ _ [.fx Order a_self, .fx Order a_other] (w_Order_check_length a_self a_other)
  exact bo_nx (Δ := fun _ : Unit => [.un, .un]) (ΔL := fun e : Empty => e.elim) (st_seq (Δ1 := fun v1_s : Unit => [.fx Order a_self, .fx Order a_other]) (st_if (eb_test (ev_op (ov_ne sc_ii) (ev_ca1 cv_lenT (ev_fld (fun o : Order => o.layers) Z.cl_Order Z.no_Order_layers (fun _ => rfl) ev_var)) (ev_ca1 cv_lenT (ev_fld (fun o : Order => o.layers) Z.cl_Order Z.no_Order_layers (fun _ => rfl) ev_var)))) (st_raise0 112) (st_nil () (Le.eq (Le.eq Le.nil))))
        fun v1_s => (st_nil () (Le.un (Le.un Le.nil))))
theorem ok_Order__and (Z : Fa K mg) : FnOk P w K mg base (L2.CX P w) 9 Z.f_Order__and Z.fd_Order__and ["self", "other"] (SpF ⟨K, Z.cls⟩ (fun t : (Cn Order (Cn Order Nl)) => w_Order__and t.a t.r.a)) := by
  refine def_ok _ Z.F_Order__and sc_Order__and rfl (by decide) fun cdv A outer s H E A0 Er t hr => ?_
  obtain ⟨a_self, a_other, ⟨⟩⟩ := t
  refine ⟨_, (pss_cons (ps_expr (pe_meth (pv 0) Z.cl_Order Z.M_Order_check_length (ok_Order_check_length Z) (hr.mono (by decide)) Z.b_Order_check_length .nil (pass_of (E := E) (takes_of rfl rfl rfl rfl)) (pa_cons (pv 1) pa_nil)))
        (pss_one (ps_ret (pe_make Z.M_Order (ok_Order__init Z) (hr.mono (by decide)) (by rfl) Z.g_Order Z.b_Order__init .nil (pass_of (E := E) (takes_of rfl rfl rfl rfl)) (pa_cons (pe_lc (own := [("mine", 2), ("yours", 3)]) (g := gTup K 2 (gCons (gName 2) (gCons (gName 3) gNil))) (tt := tYes) rfl sc_Order__and.nd (RZ.pi_zipA (by rfl) Z.z_zip (pa_cons (pe_fld (pv 0) rfl) (pa_cons (pe_fld (pv 1) rfl) pa_nil))) (blkOk_by (N := N_Order__and) (sc := defScope s_Order__and) (by decide +kernel)) (fun _ _ _ _ _ => (pg_tup rfl (pgs_cons (pg_name (i := 2) sc_Order__and.nd rfl (Or.inl rfl)) (pgs_cons (pg_name (i := 3) sc_Order__and.nd rfl (Or.inl rfl)) pgs_nil)))) (fun _ _ _ _ _ => pts_nil) (fun _ _ _ _ _ => (pe_callB (call_min2 rfl) (by rfl) Z.z_min (by decide +kernel) (pa_cons (pv 2) (pa_cons (pv 3) pa_nil))))) pa_nil))))), ?_⟩
  show BodyOk _ _ [.fx Order a_self, .fx Order a_other, .un, .un] (w_Order__and a_self a_other)
  exact bo_ret (Δ := fun _ : Unit => [.un, .un, .un, .un]) (ΔL := fun e : Empty => e.elim) (st_seq (Δ1 := fun v1_s : Unit => [.fx Order a_self, .fx Order a_other, .un, .un]) (st_drop (ev_meth (α := Order) (fun _ => rfl) ev_var (ea_cons ev_var ea_nil)))
        fun v1_s => (st_ret (ev_make (α := Order) (ea_cons (ev_bor (ev_fr (ef_comp (ei_zipT (es_tup (ev_fld (fun o : Order => o.layers) Z.cl_Order Z.no_Order_layers (fun _ => rfl) ev_var)) (es_tup (ev_fld (fun o : Order => o.layers) Z.cl_Order Z.no_Order_layers (fun _ => rfl) ev_var)) (eg_2 eg_name eg_name)) (fun _ => eb_yes) (fun v3_x => (ev_ca2 cv_min2 ev_var ev_var))))) ea_nil))))
theorem ok_Order__eq (Z : Fa K mg) : FnOk P w K mg base (L2.CX P w) 1 Z.f_Order__eq Z.fd_Order__eq ["self", "other"] (SpF ⟨K, Z.cls⟩ (fun t : (Cn Order (Cn Order Nl)) => w_Order__eq t.a t.r.a)) := by
  refine def_ok _ Z.F_Order__eq sc_Order__eq rfl (by decide) fun cdv A outer s H E A0 Er t hr => ?_
  obtain ⟨a_self, a_other, ⟨⟩⟩ := t
  refine ⟨_, (pss_one (ps_ret (pe_and (pe_callB call_isi (by rfl) Z.z_isinstance (by decide +kernel) (pa_cons (pv 1) (pa_cons (pe_glob (v := .ref (Z.cls 0)) (by rfl) Z.g_Order rfl) pa_nil))) (pe_one (pe_cmpR (op_eqD hr.units) (pe_fld (pv 0) rfl) (pe_fld (pv 1) rfl) (nomark _)))))), ?_⟩
  show BodyOk _ _ [.fx Order a_self, .fx Order a_other] (w_Order__eq a_self a_other)
  exact bo_ret (Δ := fun _ : Unit => [.un, .un]) (ΔL := fun e : Empty => e.elim) (st_ret (ev_and (ev_isi (kd_obj Z.cty_Order) (fun _ => true) (.own _) (fun _ => (kit_same _ _)) ev_var) (ev_op ov_eqD (ev_fld (fun o : Order => o.layers) Z.cl_Order Z.no_Order_layers (fun _ => rfl) ev_var) (ev_fld (fun o : Order => o.layers) Z.cl_Order Z.no_Order_layers (fun _ => rfl) ev_var))))
theorem ok_l_beneath (Z : Fa K mg) : FnOk P w K mg base (L2.CX P w) 1 Z.f_l_beneath Z.fd_l_beneath ["_law_low", "_law_high"] (SpF ⟨K, Z.cls⟩ (fun t : (Cn (Tup Int) (Cn (Tup Int) Nl)) => w_l_beneath t.a t.r.a)) := by
  refine def_ok _ Z.F_l_beneath sc_l_beneath rfl (by decide) fun cdv A outer s H E A0 Er t hr => ?_
  obtain ⟨a_low, a_high, ⟨⟩⟩ := t
  refine ⟨_, (pss_one (ps_ret (pe_cmpR (op_eqD hr.units) (pe_lc (own := [("_law_a", 2), ("_law_b", 3)]) (g := gTup K 2 (gCons (gName 2) (gCons (gName 3) gNil))) rfl sc_l_beneath.nd (RZ.pi_zipA (by rfl) Z.z_zip (pa_cons (pv 0) (pa_cons (pv 1) pa_nil))) (blkOk_by (N := N_l_beneath) (sc := defScope s_l_beneath) (by decide +kernel)) (fun _ _ _ _ _ => (pg_tup rfl (pgs_cons (pg_name (i := 2) sc_l_beneath.nd rfl (Or.inl rfl)) (pgs_cons (pg_name (i := 3) sc_l_beneath.nd rfl (Or.inl rfl)) pgs_nil)))) (fun _ _ _ _ _ => (pts_one (pt_cmpR op_gt (pv 2) (pv 3) (nomark _)))) (fun _ _ _ _ _ => pe_int)) (pe_lst pa_nil) (nomark _)))), ?_⟩
  show BodyOk _ _ [.fx (Tup Int) a_low, .fx (Tup Int) a_high, .un, .un] (w_l_beneath a_low a_high)
  exact bo_ret (Δ := fun _ : Unit => [.un, .un, .un, .un]) (ΔL := fun e : Empty => e.elim) (st_ret (ev_op ov_eqD (ev_bor (ev_fr (ef_comp (ei_zipT (es_tup ev_var) (es_tup ev_var) (eg_2 eg_name eg_name)) (fun v2_x => (eb_test (ev_op ov_gt ev_var ev_var))) (fun v2_x => ev_int)))) (ev_bor (ev_fr (ef_lst es_nil)))))
theorem ok_Order_beneath (Z : Fa K mg) : FnOk P w K mg base (L2.CX P w) 5 Z.f_Order_beneath Z.fd_Order_beneath ["self", "other"] (SpF ⟨K, Z.cls⟩ (fun t : (Cn Order (Cn Order Nl)) => w_Order_beneath t.a t.r.a)) := by
  refine def_ok _ Z.F_Order_beneath sc_Order_beneath rfl (by decide) fun cdv A outer s H E A0 Er t hr => ?_
  obtain ⟨a_self, a_other, ⟨⟩⟩ := t
  refine ⟨_, (pss_cons (ps_expr (pe_meth (pv 0) Z.cl_Order Z.M_Order_check_length (ok_Order_check_length Z) (hr.mono (by decide)) Z.b_Order_check_length .nil (pass_of (E := E) (takes_of rfl rfl rfl rfl)) (pa_cons (pv 1) pa_nil)))
        (pss_one (ps_ret (pe_callB (cr_all rfl) (by rfl) Z.z_all (by decide +kernel) (pa_cons (pe_lc (own := [("mine", 2), ("yours", 3)]) (g := gTup K 2 (gCons (gName 2) (gCons (gName 3) gNil))) (tt := tYes) rfl sc_Order_beneath.nd (RZ.pi_zipA (by rfl) Z.z_zip (pa_cons (pe_fld (pv 0) rfl) (pa_cons (pe_fld (pv 1) rfl) pa_nil))) (blkOk_by (N := N_Order_beneath) (sc := defScope s_Order_beneath) (by decide +kernel)) (fun _ _ _ _ _ => (pg_tup rfl (pgs_cons (pg_name (i := 2) sc_Order_beneath.nd rfl (Or.inl rfl)) (pgs_cons (pg_name (i := 3) sc_Order_beneath.nd rfl (Or.inl rfl)) pgs_nil)))) (fun _ _ _ _ _ => pts_nil) (fun _ _ _ _ _ => (pe_cmpR op_le (pv 2) (pv 3) (nomark _)))) pa_nil))))), ?_⟩
  show BodyOk _ _ [.fx Order a_self, .fx Order a_other, .un, .un] (w_Order_beneath a_self a_other)
  exact bo_ret (Δ := fun _ : Unit => [.un, .un, .un, .un]) (ΔL := fun e : Empty => e.elim) (st_seq (Δ1 := fun v1_s : Unit => [.fx Order a_self, .fx Order a_other, .un, .un]) (st_drop (ev_meth (α := Order) (fun _ => rfl) ev_var (ea_cons ev_var ea_nil)))
        fun v1_s => (st_ret (ev_ca1 cv_all (ev_bor (ev_fr (ef_comp (ei_zipT (es_tup (ev_fld (fun o : Order => o.layers) Z.cl_Order Z.no_Order_layers (fun _ => rfl) ev_var)) (es_tup (ev_fld (fun o : Order => o.layers) Z.cl_Order Z.no_Order_layers (fun _ => rfl) ev_var)) (eg_2 eg_name eg_name)) (fun _ => eb_yes) (fun v2_x => (ev_op ov_le ev_var ev_var))))))))
theorem ok_l_flag (Z : Fa K mg) : FnOk P w K mg base (L2.CX P w) 1 Z.f_l_flag Z.fd_l_flag ["_law_thing", "_law_due"] (SpF ⟨K, Z.cls⟩ (fun t : (Cn Bool (Cn Bool Nl)) => w_l_flag t.a t.r.a)) := by
  refine def_ok _ Z.F_l_flag sc_l_flag rfl (by decide) fun cdv A outer s H E A0 Er t hr => ?_
  obtain ⟨a_thing, a_due, ⟨⟩⟩ := t
  refine ⟨_, (pss_one (ps_ret (pe_ifExp (pt_val (pv 1)) (pe_cmpR op_isBl (pv 0) pe_bl (nomark _)) (pe_cmpR op_isBl (pv 0) pe_bl (nomark _))))), ?_⟩
  show BodyOk _ _ [.fx Bool a_thing, .fx Bool a_due] (w_l_flag a_thing a_due)
  exact bo_ret (Δ := fun _ : Unit => [.un, .un]) (ΔL := fun e : Empty => e.elim) (st_ret (ev_if (eb_val ev_var) (ev_op ov_is ev_var ev_bl) (ev_op ov_is ev_var ev_bl)))
theorem ok_l_below_both (Z : Fa K mg) : FnOk P w K mg base (L2.CX P w) 7 Z.f_l_below_both Z.fd_l_below_both ["_law_both", "_law_one", "_law_two", "_law_three"] (SpF ⟨K, Z.cls⟩ (fun t : (Cn Order (Cn Order (Cn Order (Cn Order Nl)))) => w_l_below_both t.a t.r.a t.r.r.a t.r.r.r.a)) := by
  refine def_ok _ Z.F_l_below_both sc_l_below_both rfl (by decide) fun cdv A outer s H E A0 Er t hr => ?_
  obtain ⟨a_both, a_one, a_two, a_three, ⟨⟩⟩ := t
  refine ⟨_, (pss_cons (ps_set (i := 4) sc_l_below_both.nd rfl (Or.inl rfl) (pe_and (pe_call (ok_l_beneath Z) (hr.mono (by decide)) (by rfl) Z.D_l_beneath.g Z.D_l_beneath.kp Z.D_l_beneath.b .nil (pass_of (E := E) (takes_of rfl rfl rfl rfl)) (pa_cons (pe_fld (pv 3) rfl) (pa_cons (pe_fld (pv 1) rfl) pa_nil))) (pe_one (pe_call (ok_l_beneath Z) (hr.mono (by decide)) (by rfl) Z.D_l_beneath.g Z.D_l_beneath.kp Z.D_l_beneath.b .nil (pass_of (E := E) (takes_of rfl rfl rfl rfl)) (pa_cons (pe_fld (pv 3) rfl) (pa_cons (pe_fld (pv 2) rfl) pa_nil))))))
        (pss_one (ps_ret (pe_and (pe_call (ok_l_flag Z) (hr.mono (by decide)) (by rfl) Z.D_l_flag.g Z.D_l_flag.kp Z.D_l_flag.b .nil (pass_of (E := E) (takes_of rfl rfl rfl rfl)) (pa_cons (pe_meth (pv 3) Z.cl_Order Z.M_Order_beneath (ok_Order_beneath Z) (hr.mono (by decide)) Z.b_Order_beneath .nil (pass_of (E := E) (takes_of rfl rfl rfl rfl)) (pa_cons (pv 0) pa_nil)) (pa_cons (pv 4) pa_nil))) (pe_and (pe_cmpR op_isBl (pe_meth (pv 0) Z.cl_Order Z.M_Order_beneath (ok_Order_beneath Z) (hr.mono (by decide)) Z.b_Order_beneath .nil (pass_of (E := E) (takes_of rfl rfl rfl rfl)) (pa_cons (pv 1) pa_nil)) pe_bl (nomark _)) (pe_one (pe_cmpR op_isBl (pe_meth (pv 0) Z.cl_Order Z.M_Order_beneath (ok_Order_beneath Z) (hr.mono (by decide)) Z.b_Order_beneath .nil (pass_of (E := E) (takes_of rfl rfl rfl rfl)) (pa_cons (pv 2) pa_nil)) pe_bl (nomark _)))))))), ?_⟩
  show BodyOk _ _ [.fx Order a_both, .fx Order a_one, .fx Order a_two, .fx Order a_three, .un] (w_l_below_both a_both a_one a_two a_three)
  exact bo_ret (Δ := fun _ : Unit => [.un, .un, .un, .un, .un]) (ΔL := fun e : Empty => e.elim) (st_seq (Δ1 := fun v1_s : Bool => [.fx Order a_both, .fx Order a_one, .fx Order a_two, .fx Order a_three, .fx Bool v1_s]) (st_set (i := 4) (ev_and (ev_call (ea_cons (ev_fld (fun o : Order => o.layers) Z.cl_Order Z.no_Order_layers (fun _ => rfl) ev_var) (ea_cons (ev_fld (fun o : Order => o.layers) Z.cl_Order Z.no_Order_layers (fun _ => rfl) ev_var) ea_nil))) (ev_call (ea_cons (ev_fld (fun o : Order => o.layers) Z.cl_Order Z.no_Order_layers (fun _ => rfl) ev_var) (ea_cons (ev_fld (fun o : Order => o.layers) Z.cl_Order Z.no_Order_layers (fun _ => rfl) ev_var) ea_nil)))))
        fun v1_s => (st_ret (ev_and (ev_call (ea_cons (ev_meth (α := Order) (fun _ => rfl) ev_var (ea_cons ev_var ea_nil)) (ea_cons ev_var ea_nil))) (ev_and (ev_op ov_is (ev_meth (α := Order) (fun _ => rfl) ev_var (ea_cons ev_var ea_nil)) ev_bl) (ev_op ov_is (ev_meth (α := Order) (fun _ => rfl) ev_var (ea_cons ev_var ea_nil)) ev_bl)))))
theorem ok_l_toward (Z : Fa K mg) : FnOk P w K mg base (L2.CX P w) 5 Z.f_l_toward Z.fd_l_toward ["_law_bag_here", "_law_layers_here"] (SpF ⟨K, Z.cls⟩ (fun t : (Cn Bag (Cn (Bor Int) Nl)) => w_l_toward t.a t.r.a)) := by
  refine def_ok _ Z.F_l_toward sc_l_toward rfl (by decide) fun cdv A outer s H E A0 Er t hr => ?_
  obtain ⟨a_bag_here, a_layers_here, ⟨⟩⟩ := t
  refine ⟨_, (pss_cons (ps_set (i := 2) sc_l_toward.nd rfl (Or.inl rfl) (pe_op op_shl pe_int (pe_callB call_len_seq (by rfl) Z.z_len (by decide +kernel) (pa_cons (pv 1) pa_nil))))
        (pss_cons (ps_set (i := 3) sc_l_toward.nd rfl (Or.inr rfl) (pe_op op_add pe_int (pe_call (ok_l_take Z) (hr.mono (by decide)) (by rfl) Z.D_l_take.g Z.D_l_take.kp Z.D_l_take.b .nil pass0 (pa_cons (pv 0) (pa_cons (pe_op op_sub (pv 2) pe_int) pa_nil)))))
        (pss_cons (ps_if (pt_cmpR op_eq (pe_call (ok_l_take Z) (hr.mono (by decide)) (by rfl) Z.D_l_take.g Z.D_l_take.kp Z.D_l_take.b .nil pass0 (pa_cons (pv 0) (pa_cons pe_int pa_nil))) pe_int (nomark _)) (pss_cons (ps_set (i := 4) sc_l_toward.nd rfl (Or.inr rfl) (pe_call (ok_l_of Z) (hr.mono (by decide)) (by rfl) Z.D_l_of.g Z.D_l_of.kp Z.D_l_of.b .nil (pass_of (E := E) (takes_of rfl rfl rfl rfl)) (pa_cons (pv 0) (pa_cons (pv 1) pa_nil))))
        (pss_cons (ps_set (i := 3) sc_l_toward.nd rfl (Or.inr rfl) (pe_callB (cr_sum rfl) (by rfl) Z.z_sum (by decide +kernel) (pa_cons (pe_lc (own := [("_law_day", 5), ("_law_layer", 9)]) (g := gTup K 2 (gCons (gName 5) (gCons (gName 9) gNil))) rfl sc_l_toward.nd (pi_enum (by rfl) Z.z_enumerate (pa_cons (pv 1) pa_nil)) (blkOk_by (N := N_l_toward) (sc := defScope s_l_toward) (by decide +kernel)) (fun _ _ _ _ _ => (pg_tup rfl (pgs_cons (pg_name (i := 5) sc_l_toward.nd rfl (Or.inl rfl)) (pgs_cons (pg_name (i := 9) sc_l_toward.nd rfl (Or.inl rfl)) pgs_nil)))) (fun _ _ _ _ _ => (pts_one (pt_cmpR op_ge (pv 9) (pv 4) (nomark _)))) (fun _ _ _ _ _ => (pe_op op_shl pe_int (pv 5)))) pa_nil)))
        pss_nil)) pss_nil)
        (pss_cons (ps_set (i := 6) sc_l_toward.nd rfl (Or.inr rfl) (pe_callB (cr_min rfl) (by rfl) Z.z_min (by decide +kernel) (pa_cons (pe_lc (own := [("_law_day", 5), ("_law_layer", 9)]) (g := gTup K 2 (gCons (gName 5) (gCons (gName 9) gNil))) rfl sc_l_toward.nd (pi_enum (by rfl) Z.z_enumerate (pa_cons (pv 1) pa_nil)) (blkOk_by (N := N_l_toward) (sc := defScope s_l_toward) (by decide +kernel)) (fun _ _ _ _ _ => (pg_tup rfl (pgs_cons (pg_name (i := 5) sc_l_toward.nd rfl (Or.inl rfl)) (pgs_cons (pg_name (i := 9) sc_l_toward.nd rfl (Or.inl rfl)) pgs_nil)))) (fun _ _ _ _ _ => (pts_one (pt_cmpR op_eq (pe_op op_and (pe_op op_shr (pv 3) (pv 5)) pe_int) pe_int (nomark _)))) (fun _ _ _ _ _ => (pv 9))) pa_nil)))
        (pss_cons (ps_setLc (i := 7) (own := [("_law_day", 5), ("_law_layer", 9)]) (g := gTup K 2 (gCons (gName 5) (gCons (gName 9) gNil))) rfl sc_l_toward.nd rfl rfl (sw_true rfl rfl rfl (by decide +kernel)) (pi_enum (by rfl) Z.z_enumerate (pa_cons (pv 1) pa_nil)) (blkOk_by (N := N_l_toward) (sc := defScope s_l_toward) (by decide +kernel)) (fun _ _ _ _ _ => (pg_tup rfl (pgs_cons (pg_name (i := 5) sc_l_toward.nd rfl (Or.inl rfl)) (pgs_cons (pg_name (i := 9) sc_l_toward.nd rfl (Or.inl rfl)) pgs_nil)))) (fun _ _ _ _ _ => (pts_one (PW.pt (pw_and (pt_cmpR op_eq (pe_op op_and (pe_op op_shr (pv 3) (pv 5)) pe_int) pe_int (nomark _)) (pw_and1 (pt_cmpR op_eq (pv 9) (pv 6) (nomark _))))))) (fun _ _ _ _ _ => (pv 5)))
        (pss_cons (ps_set (i := 8) sc_l_toward.nd rfl (Or.inl rfl) (pe_op op_and (pe_call (ok_l_take Z) (hr.mono (by decide)) (by rfl) Z.D_l_take.g Z.D_l_take.kp Z.D_l_take.b .nil pass0 (pa_cons (pv 0) (pa_cons (pv 2) pa_nil))) (pe_call (ok_l_take Z) (hr.mono (by decide)) (by rfl) Z.D_l_take.g Z.D_l_take.kp Z.D_l_take.b .nil pass0 (pa_cons (pv 0) (pa_cons (pv 2) pa_nil)))))
        (pss_cons (ps_if (pt_cmpR op_gt (pe_call (ok_l_take Z) (hr.mono (by decide)) (by rfl) Z.D_l_take.g Z.D_l_take.kp Z.D_l_take.b .nil pass0 (pa_cons (pv 0) (pa_cons pe_int pa_nil))) pe_int (nomark _)) (pss_cons (ps_for (passes_of rfl) rfl (pi_list (pv 7)) (pg_name (i := 5) sc_l_toward.nd rfl (Or.inl rfl)) (pss_cons (ps_set (i := 8) sc_l_toward.nd rfl (Or.inl rfl) (pe_op op_or (pv 8) (pe_op op_shl pe_int (pv 5))))
        pss_nil))
        (pss_one (ps_ret (pe_tup (pa_cons (pv 3) (pa_cons (pv 8) (pa_cons pe_bl pa_nil))))))) pss_nil)
        (pss_cons (ps_set (i := 8) sc_l_toward.nd rfl (Or.inl rfl) (pe_op op_or (pv 8) (pe_call (ok_l_take Z) (hr.mono (by decide)) (by rfl) Z.D_l_take.g Z.D_l_take.kp Z.D_l_take.b .nil pass0 (pa_cons (pv 0) (pa_cons (pv 2) pa_nil)))))
        (pss_one (ps_ret (pe_tup (pa_cons (pv 3) (pa_cons (pe_op op_and (pv 8) (pe_un un_inv (pe_op op_shl pe_int (pe_call (ok_l_of Z) (hr.mono (by decide)) (by rfl) Z.D_l_of.g Z.D_l_of.kp Z.D_l_of.b .nil (pass_of (E := E) (takes_of rfl rfl rfl rfl)) (pa_cons (pv 0) (pa_cons (pv 7) pa_nil)))))) (pa_cons pe_bl pa_nil)))))))))))))), ?_⟩
  show BodyOk _ _ [.fx Bag a_bag_here, .bo Int a_layers_here.l, .un, .un, .un, .un, .un, .un, .un, .un] (w_l_toward a_bag_here a_layers_here)
  exact bo_ret (Δ := fun _ : Unit => [.un, .un, .un, .un, .un, .un, .un, .un, .un, .un]) (ΔL := fun e : Empty => e.elim) (st_seq (Δ1 := fun v1_s : Int => [.fx Bag a_bag_here, .bo Int a_layers_here.l, .fx Int v1_s, .un, .un, .un, .un, .un, .un, .un]) (st_set (i := 2) (ev_op ov_shl ev_int (ev_ca1 cv_lenL ev_bo)))
        fun v1_s => (st_seq (Δ1 := fun v2_s : Int => [.fx Bag a_bag_here, .bo Int a_layers_here.l, .fx Int v1_s, .fx Int v2_s, .un, .un, .un, .un, .un, .un]) (st_set (i := 3) (ev_op ov_add ev_int (ev_call (ea_cons ev_var (ea_cons (ev_op ov_sub ev_var ev_int) ea_nil)))))
        fun v2_s => (st_seq (Δ1 := fun v6_s : Int => [.fx Bag a_bag_here, .bo Int a_layers_here.l, .fx Int v1_s, .fx Int v6_s, .un, .un, .un, .un, .un, .un]) (st_if (eb_test (ev_op (ov_eq sc_ii) (ev_call (ea_cons ev_var (ea_cons ev_int ea_nil))) ev_int)) (st_seq (Δ1 := fun v3_s : Int => [.fx Bag a_bag_here, .bo Int a_layers_here.l, .fx Int v1_s, .fx Int v2_s, .fx Int v3_s, .un, .un, .un, .un, .un]) (st_set (i := 4) (ev_call (ea_cons ev_var (ea_cons ev_bo ea_nil))))
        fun v3_s => (st_seq (Δ1 := fun v5_s : Int => [.fx Bag a_bag_here, .bo Int a_layers_here.l, .fx Int v1_s, .fx Int v5_s, .fx Int v3_s, .un, .un, .un, .un, .un]) (st_set (i := 3) (ev_ca1 cv_sum (ev_bor (ev_fr (ef_comp (ei_enum es_bo (eg_2 eg_name eg_name)) (fun v4_x => (eb_test (ev_op ov_ge ev_var ev_var))) (fun v4_x => (ev_op ov_shl ev_int ev_var)))))))
        fun v5_s => (st_nil (v5_s) (Le.eq (Le.eq (Le.eq (Le.eq (Le.un (Le.eq (Le.eq (Le.eq (Le.eq (Le.eq Le.nil))))))))))))) (st_nil (v2_s) (Le.eq (Le.eq (Le.eq (Le.eq (Le.eq (Le.eq (Le.eq (Le.eq (Le.eq (Le.eq Le.nil))))))))))))
        fun v6_s => (st_seq (Δ1 := fun v8_s : Int => [.fx Bag a_bag_here, .bo Int a_layers_here.l, .fx Int v1_s, .fx Int v6_s, .un, .un, .fx Int v8_s, .un, .un, .un]) (st_set (i := 6) (ev_ca1 cv_min (ev_bor (ev_fr (ef_comp (ei_enum es_bo (eg_2 eg_name eg_name)) (fun v7_x => (eb_test (ev_op (ov_eq sc_ii) (ev_op ov_and (ev_op ov_shr ev_var ev_var) ev_int) ev_int))) (fun v7_x => ev_var))))))
        fun v8_s => (st_seq (Δ1 := fun v10_s : (List Int) => [.fx Bag a_bag_here, .bo Int a_layers_here.l, .fx Int v1_s, .fx Int v6_s, .un, .un, .fx Int v8_s, .fx (List Int) v10_s, .un, .un]) (st_set (i := 7) (ev_fr (ef_comp (ei_enum es_bo (eg_2 eg_name eg_name)) (fun v9_x => (eb_and (eb_test (ev_op (ov_eq sc_ii) (ev_op ov_and (ev_op ov_shr ev_var ev_var) ev_int) ev_int)) (eb_test (ev_op (ov_eq sc_ii) ev_var ev_var)))) (fun v9_x => ev_var))))
        fun v10_s => (st_seq (Δ1 := fun v11_s : Int => [.fx Bag a_bag_here, .bo Int a_layers_here.l, .fx Int v1_s, .fx Int v6_s, .un, .un, .fx Int v8_s, .fx (List Int) v10_s, .fx Int v11_s, .un]) (st_set (i := 8) (ev_op ov_and (ev_call (ea_cons ev_var (ea_cons ev_var ea_nil))) (ev_call (ea_cons ev_var (ea_cons ev_var ea_nil)))))
        fun v11_s => (st_seq (Δ1 := fun v16_s : Unit => [.fx Bag a_bag_here, .bo Int a_layers_here.l, .fx Int v1_s, .fx Int v6_s, .un, .un, .fx Int v8_s, .fx (List Int) v10_s, .fx Int v11_s, .un]) (st_if (eb_test (ev_op ov_gt (ev_call (ea_cons ev_var (ea_cons ev_int ea_nil))) ev_int)) (st_seq (Δ1 := fun v15_s : Int => [.fx Bag a_bag_here, .bo Int a_layers_here.l, .fx Int v1_s, .fx Int v6_s, .un, .un, .fx Int v8_s, .fx (List Int) v10_s, .fx Int v15_s, .un]) (st_for (Δ := fun v13_s : Int => [.fx Bag a_bag_here, .bo Int a_layers_here.l, .fx Int v1_s, .fx Int v6_s, .un, .un, .fx Int v8_s, .fx (List Int) v10_s, .fx Int v13_s, .un]) (v11_s) (ei_list (es_list ev_var) eg_name) (Le.eq (Le.eq (Le.eq (Le.eq (Le.eq (Le.eq (Le.eq (Le.eq (Le.eq (Le.eq Le.nil)))))))))) (fun _ => rfl) fun v12_x v13_s => (st_seq (Δ1 := fun v14_s : Int => [.fx Bag a_bag_here, .bo Int a_layers_here.l, .fx Int v1_s, .fx Int v6_s, .un, .fx Int v12_x, .fx Int v8_s, .fx (List Int) v10_s, .fx Int v14_s, .un]) (st_set (i := 8) (ev_op ov_or ev_var (ev_op ov_shl ev_int ev_var)))
        fun v14_s => (st_nil (v14_s) (Le.eq (Le.eq (Le.eq (Le.eq (Le.eq (Le.un (Le.eq (Le.eq (Le.eq (Le.eq Le.nil)))))))))))))
        fun v15_s => (st_ret (ev_t3 ev_var ev_var ev_bl))) (st_nil () (Le.eq (Le.eq (Le.eq (Le.eq (Le.eq (Le.eq (Le.eq (Le.eq (Le.eq (Le.eq Le.nil))))))))))))
        fun v16_s => (st_seq (Δ1 := fun v17_s : Int => [.fx Bag a_bag_here, .bo Int a_layers_here.l, .fx Int v1_s, .fx Int v6_s, .un, .un, .fx Int v8_s, .fx (List Int) v10_s, .fx Int v17_s, .un]) (st_set (i := 8) (ev_op ov_or ev_var (ev_call (ea_cons ev_var (ea_cons ev_var ea_nil)))))
        fun v17_s => (st_ret (ev_t3 ev_var (ev_op ov_and ev_var (ev_un uv_inv (ev_op ov_shl ev_int (ev_call (ea_cons ev_var (ea_cons (ev_bor ev_var) ea_nil)))))) ev_bl))))))))))
theorem ok_l_any (Z : Fa K mg) : FnOk P w K mg base (L2.CX P w) 3 Z.f_l_any Z.fd_l_any ["_law_bag_here", "_law_days"] (SpF ⟨K, Z.cls⟩ (fun t : (Cn Bag (Cn Int Nl)) => w_l_any t.a t.r.a)) := by
  refine def_ok _ Z.F_l_any sc_l_any rfl (by decide) fun cdv A outer s H E A0 Er t hr => ?_
  obtain ⟨a_bag_here, a_days, ⟨⟩⟩ := t
  refine ⟨_, (pss_cons (ps_set (i := 2) sc_l_any.nd rfl (Or.inl rfl) (pe_op op_shl pe_int (pv 1)))
        (pss_one (ps_ret (pe_tup (pa_cons (pe_op op_add pe_int (pe_call (ok_l_take Z) (hr.mono (by decide)) (by rfl) Z.D_l_take.g Z.D_l_take.kp Z.D_l_take.b .nil pass0 (pa_cons (pv 0) (pa_cons (pe_op op_sub (pv 2) pe_int) pa_nil)))) (pa_cons (pe_call (ok_l_take Z) (hr.mono (by decide)) (by rfl) Z.D_l_take.g Z.D_l_take.kp Z.D_l_take.b .nil pass0 (pa_cons (pv 0) (pa_cons (pv 2) pa_nil))) (pa_cons (pe_cmpR op_gt (pe_call (ok_l_take Z) (hr.mono (by decide)) (by rfl) Z.D_l_take.g Z.D_l_take.kp Z.D_l_take.b .nil pass0 (pa_cons (pv 0) (pa_cons pe_int pa_nil))) pe_int (nomark _)) pa_nil))))))), ?_⟩
  show BodyOk _ _ [.fx Bag a_bag_here, .fx Int a_days, .un] (w_l_any a_bag_here a_days)
  exact bo_ret (Δ := fun _ : Unit => [.un, .un, .un]) (ΔL := fun e : Empty => e.elim) (st_seq (Δ1 := fun v1_s : Int => [.fx Bag a_bag_here, .fx Int a_days, .fx Int v1_s]) (st_set (i := 2) (ev_op ov_shl ev_int ev_var))
        fun v1_s => (st_ret (ev_t3 (ev_op ov_add ev_int (ev_call (ea_cons ev_var (ea_cons (ev_op ov_sub ev_var ev_int) ea_nil)))) (ev_call (ea_cons ev_var (ea_cons ev_var ea_nil))) (ev_op ov_gt (ev_call (ea_cons ev_var (ea_cons ev_int ea_nil))) ev_int))))
theorem ok_l_drawn (Z : Fa K mg) : FnOk P w K mg base (L2.CX P w) 7 Z.f_l_drawn Z.fd_l_drawn ["_law_bag_here", "_law_one", "_law_two", "_law_many"] (SpF ⟨K, Z.cls⟩ (fun t : (Cn Bag (Cn (Bor Int) (Cn (Bor Int) (Cn Int Nl)))) => w_l_drawn t.a t.r.a t.r.r.a t.r.r.r.a)) := by
  refine def_ok _ Z.F_l_drawn sc_l_drawn rfl (by decide) fun cdv A outer s H E A0 Er t hr => ?_
  obtain ⟨a_bag_here, a_one, a_two, a_many, ⟨⟩⟩ := t
  refine ⟨_, (pss_cons (ps_set (i := 4) sc_l_drawn.nd rfl (Or.inl rfl) (pe_lst pa_nil))
        (pss_cons (ps_for (passes_of rfl) rfl (pi_range1 (by rfl) Z.z_range (pa_cons (pv 3) pa_nil)) (pg_name (i := 5) sc_l_drawn.nd rfl (Or.inl rfl)) (pss_cons (ps_set (i := 6) sc_l_drawn.nd rfl (Or.inl rfl) (pe_call (ok_l_take Z) (hr.mono (by decide)) (by rfl) Z.D_l_take.g Z.D_l_take.kp Z.D_l_take.b .nil pass0 (pa_cons (pv 0) (pa_cons pe_int pa_nil))))
        (pss_cons (ps_if (pt_cmpR op_lt (pv 6) pe_int (nomark _)) (pss_cons (ps_expr (pe_bm PySem.F.plainAttrs_list PySem.F.slot_list_append PySem.F.type_list_append mt_append (pv 4) (pa_cons (pe_call (ok_l_toward Z) (hr.mono (by decide)) (by rfl) Z.D_l_toward.g Z.D_l_toward.kp Z.D_l_toward.b .nil (pass_of (E := E) (takes_of rfl rfl rfl rfl)) (pa_cons (pv 0) (pa_cons (pv 1) pa_nil))) pa_nil)))
        pss_nil) (pss_cons (ps_if (pt_cmpR op_lt (pv 6) pe_int (nomark _)) (pss_cons (ps_expr (pe_bm PySem.F.plainAttrs_list PySem.F.slot_list_append PySem.F.type_list_append mt_append (pv 4) (pa_cons (pe_call (ok_l_toward Z) (hr.mono (by decide)) (by rfl) Z.D_l_toward.g Z.D_l_toward.kp Z.D_l_toward.b .nil (pass_of (E := E) (takes_of rfl rfl rfl rfl)) (pa_cons (pv 0) (pa_cons (pv 2) pa_nil))) pa_nil)))
        pss_nil) (pss_cons (ps_expr (pe_bm PySem.F.plainAttrs_list PySem.F.slot_list_append PySem.F.type_list_append mt_append (pv 4) (pa_cons (pe_call (ok_l_any Z) (hr.mono (by decide)) (by rfl) Z.D_l_any.g Z.D_l_any.kp Z.D_l_any.b .nil (pass_of (E := E) (takes_of rfl rfl rfl rfl)) (pa_cons (pv 0) (pa_cons (pe_callB call_len_seq (by rfl) Z.z_len (by decide +kernel) (pa_cons (pv 1) pa_nil)) pa_nil))) pa_nil)))
        pss_nil))
        pss_nil))
        pss_nil)))
        (pss_one (ps_ret (pv 4))))), ?_⟩
  show BodyOk _ _ [.fx Bag a_bag_here, .bo Int a_one.l, .bo Int a_two.l, .fx Int a_many, .un, .un, .un] (w_l_drawn a_bag_here a_one a_two a_many)
  exact bo_ret (Δ := fun _ : Unit => [.un, .un, .un, .un, .un, .un, .un]) (ΔL := fun e : Empty => e.elim) (st_seq (Δ1 := fun v1_s : (List (T3 Int Int Bool)) => [.fx Bag a_bag_here, .bo Int a_one.l, .bo Int a_two.l, .fx Int a_many, .mu (T3 Int Int Bool) v1_s, .un, .un]) (st_setM (i := 4) (ef_lst es_nil))
        fun v1_s => (st_seq (Δ1 := fun v10_s : (List (T3 Int Int Bool)) => [.fx Bag a_bag_here, .bo Int a_one.l, .bo Int a_two.l, .fx Int a_many, .mu (T3 Int Int Bool) v10_s, .un, .un]) (st_for (Δ := fun v3_s : (List (T3 Int Int Bool)) => [.fx Bag a_bag_here, .bo Int a_one.l, .bo Int a_two.l, .fx Int a_many, .mu (T3 Int Int Bool) v3_s, .un, .un]) (v1_s) (ei_range1 ev_var eg_name) (Le.eq (Le.eq (Le.eq (Le.eq (Le.eq (Le.eq (Le.eq Le.nil))))))) (fun _ => rfl) fun v2_x v3_s => (st_seq (Δ1 := fun v4_s : Int => [.fx Bag a_bag_here, .bo Int a_one.l, .bo Int a_two.l, .fx Int a_many, .mu (T3 Int Int Bool) v3_s, .fx Int v2_x, .fx Int v4_s]) (st_set (i := 6) (ev_call (ea_cons ev_var (ea_cons ev_int ea_nil))))
        fun v4_s => (st_seq (Δ1 := fun v9_s : (List (T3 Int Int Bool)) => [.fx Bag a_bag_here, .bo Int a_one.l, .bo Int a_two.l, .fx Int a_many, .mu (T3 Int Int Bool) v9_s, .fx Int v2_x, .fx Int v4_s]) (st_if (eb_test (ev_op ov_lt ev_var ev_int)) (st_seq (Δ1 := fun v5_s : (List (T3 Int Int Bool)) => [.fx Bag a_bag_here, .bo Int a_one.l, .bo Int a_two.l, .fx Int a_many, .mu (T3 Int Int Bool) v5_s, .fx Int v2_x, .fx Int v4_s]) (st_map (fun a => v3_s ++ [a]) (st_app (i := 4) (ev_call (ea_cons ev_var (ea_cons ev_bo ea_nil)))) fun _ => (Le.eq (Le.eq (Le.eq (Le.eq (Le.eq (Le.eq (Le.eq Le.nil))))))))
        fun v5_s => (st_nil (v5_s) (Le.eq (Le.eq (Le.eq (Le.eq (Le.eq (Le.eq (Le.eq Le.nil))))))))) (st_seq (Δ1 := fun v8_s : (List (T3 Int Int Bool)) => [.fx Bag a_bag_here, .bo Int a_one.l, .bo Int a_two.l, .fx Int a_many, .mu (T3 Int Int Bool) v8_s, .fx Int v2_x, .fx Int v4_s]) (st_if (eb_test (ev_op ov_lt ev_var ev_int)) (st_seq (Δ1 := fun v6_s : (List (T3 Int Int Bool)) => [.fx Bag a_bag_here, .bo Int a_one.l, .bo Int a_two.l, .fx Int a_many, .mu (T3 Int Int Bool) v6_s, .fx Int v2_x, .fx Int v4_s]) (st_map (fun a => v3_s ++ [a]) (st_app (i := 4) (ev_call (ea_cons ev_var (ea_cons ev_bo ea_nil)))) fun _ => (Le.eq (Le.eq (Le.eq (Le.eq (Le.eq (Le.eq (Le.eq Le.nil))))))))
        fun v6_s => (st_nil (v6_s) (Le.eq (Le.eq (Le.eq (Le.eq (Le.eq (Le.eq (Le.eq Le.nil))))))))) (st_seq (Δ1 := fun v7_s : (List (T3 Int Int Bool)) => [.fx Bag a_bag_here, .bo Int a_one.l, .bo Int a_two.l, .fx Int a_many, .mu (T3 Int Int Bool) v7_s, .fx Int v2_x, .fx Int v4_s]) (st_map (fun a => v3_s ++ [a]) (st_app (i := 4) (ev_call (ea_cons ev_var (ea_cons (ev_ca1 cv_lenL ev_bo) ea_nil)))) fun _ => (Le.eq (Le.eq (Le.eq (Le.eq (Le.eq (Le.eq (Le.eq Le.nil))))))))
        fun v7_s => (st_nil (v7_s) (Le.eq (Le.eq (Le.eq (Le.eq (Le.eq (Le.eq (Le.eq Le.nil))))))))))
        fun v8_s => (st_nil (v8_s) (Le.eq (Le.eq (Le.eq (Le.eq (Le.eq (Le.eq (Le.eq Le.nil))))))))))
        fun v9_s => (st_nil (v9_s) (Le.eq (Le.eq (Le.eq (Le.eq (Le.eq (Le.un (Le.un Le.nil)))))))))))
        fun v10_s => st_retM))
theorem ok_l_sides (Z : Fa K mg) : FnOk P w K mg base (L2.CX P w) 1 Z.f_l_sides Z.fd_l_sides ["_law_saying"] (SpF ⟨K, Z.cls⟩ (fun t : (Cn (T3 Int Int Bool) Nl) => w_l_sides t.a)) := by
  refine def_ok _ Z.F_l_sides sc_l_sides rfl (by decide) fun cdv A outer s H E A0 Er t hr => ?_
  obtain ⟨a_saying, ⟨⟩⟩ := t
  refine ⟨_, (pss_cons (ps_asg (pv 0) (pg_tup rfl (pgs_cons (pg_name (i := 1) sc_l_sides.nd rfl (Or.inl rfl)) (pgs_cons (pg_name (i := 2) sc_l_sides.nd rfl (Or.inl rfl)) (pgs_cons (pg_name (i := 3) sc_l_sides.nd rfl (Or.inl rfl)) pgs_nil)))))
        (pss_cons (ps_if (pt_val (pv 3)) (pss_one (ps_ret (pe_tup (pa_cons (pe_op op_and (pv 1) (pv 2)) (pa_cons (pe_op op_and (pv 1) (pe_un un_inv (pv 2))) pa_nil))))) pss_nil)
        (pss_one (ps_ret (pe_tup (pa_cons (pe_op op_and (pv 1) (pe_un un_inv (pv 2))) (pa_cons (pe_op op_and (pv 1) (pv 2)) pa_nil))))))), ?_⟩
  show BodyOk _ _ [.fx (T3 Int Int Bool) a_saying, .un, .un, .un] (w_l_sides a_saying)
  exact bo_ret (Δ := fun _ : Unit => [.un, .un, .un, .un]) (ΔL := fun e : Empty => e.elim) (st_seq (Δ1 := fun v1_s : (T3 Int Int Bool) => [.fx (T3 Int Int Bool) a_saying, .fx Int v1_s.a, .fx Int v1_s.b, .fx Bool v1_s.c]) (st_asg ev_var (eg_3 eg_name eg_name eg_name) rfl)
        fun v1_s => (st_seq (Δ1 := fun v2_s : Unit => [.fx (T3 Int Int Bool) a_saying, .fx Int v1_s.a, .fx Int v1_s.b, .fx Bool v1_s.c]) (st_if (eb_val ev_var) (st_ret (ev_t2 (ev_op ov_and ev_var ev_var) (ev_op ov_and ev_var (ev_un uv_inv ev_var)))) (st_nil () (Le.eq (Le.eq (Le.eq (Le.eq Le.nil))))))
        fun v2_s => (st_ret (ev_t2 (ev_op ov_and ev_var (ev_un uv_inv ev_var)) (ev_op ov_and ev_var ev_var)))))
theorem ok_l_keeps (Z : Fa K mg) : FnOk P w K mg base (L2.CX P w) 3 Z.f_l_keeps Z.fd_l_keeps ["_law_layers_here", "_law_saying"] (SpF ⟨K, Z.cls⟩ (fun t : (Cn (Bor Int) (Cn (T3 Int Int Bool) Nl)) => w_l_keeps t.a t.r.a)) := by
  refine def_ok _ Z.F_l_keeps sc_l_keeps rfl (by decide) fun cdv A outer s H E A0 Er t hr => ?_
  obtain ⟨a_layers_here, a_saying, ⟨⟩⟩ := t
  refine ⟨_, (pss_cons (ps_asg (pe_call (ok_l_sides Z) (hr.mono (by decide)) (by rfl) Z.D_l_sides.g Z.D_l_sides.kp Z.D_l_sides.b .nil (pass_of (E := E) (takes_of rfl rfl rfl rfl)) (pa_cons (pv 1) pa_nil)) (pg_tup rfl (pgs_cons (pg_name (i := 2) sc_l_keeps.nd rfl (Or.inr rfl)) (pgs_cons (pg_name (i := 3) sc_l_keeps.nd rfl (Or.inr rfl)) pgs_nil))))
        (pss_cons (ps_setLc (i := 4) (own := [("_law_day", 6), ("_law_layer", 7)]) (g := gTup K 2 (gCons (gName 6) (gCons (gName 7) gNil))) rfl sc_l_keeps.nd rfl rfl (sw_true rfl rfl rfl (by decide +kernel)) (pi_enum (by rfl) Z.z_enumerate (pa_cons (pv 0) pa_nil)) (blkOk_by (N := N_l_keeps) (sc := defScope s_l_keeps) (by decide +kernel)) (fun _ _ _ _ _ => (pg_tup rfl (pgs_cons (pg_name (i := 6) sc_l_keeps.nd rfl (Or.inl rfl)) (pgs_cons (pg_name (i := 7) sc_l_keeps.nd rfl (Or.inl rfl)) pgs_nil)))) (fun _ _ _ _ _ => (pts_one (pt_cmpR op_eq (pe_op op_and (pe_op op_shr (pv 2) (pv 6)) pe_int) pe_int (nomark _)))) (fun _ _ _ _ _ => (pv 7)))
        (pss_cons (ps_setLc (i := 5) (own := [("_law_day", 6), ("_law_layer", 7)]) (g := gTup K 2 (gCons (gName 6) (gCons (gName 7) gNil))) rfl sc_l_keeps.nd rfl rfl (sw_true rfl rfl rfl (by decide +kernel)) (pi_enum (by rfl) Z.z_enumerate (pa_cons (pv 0) pa_nil)) (blkOk_by (N := N_l_keeps) (sc := defScope s_l_keeps) (by decide +kernel)) (fun _ _ _ _ _ => (pg_tup rfl (pgs_cons (pg_name (i := 6) sc_l_keeps.nd rfl (Or.inl rfl)) (pgs_cons (pg_name (i := 7) sc_l_keeps.nd rfl (Or.inl rfl)) pgs_nil)))) (fun _ _ _ _ _ => (pts_one (pt_cmpR op_eq (pe_op op_and (pe_op op_shr (pv 3) (pv 6)) pe_int) pe_int (nomark _)))) (fun _ _ _ _ _ => (pv 7)))
        (pss_cons (ps_if (pt_cmpR (op_eqD hr.units) (pv 5) (pe_lst pa_nil) (nomark _)) (pss_one (ps_ret pe_bl)) pss_nil)
        (pss_one (ps_ret (pe_and (pe_cmpR (op_neD hr.units) (pv 4) (pe_lst pa_nil) (nomark _)) (pe_one (pe_cmpR op_ge (pe_callB (cr_min rfl) (by rfl) Z.z_min (by decide +kernel) (pa_cons (pv 5) pa_nil)) (pe_op op_add (pe_callB (cr_min rfl) (by rfl) Z.z_min (by decide +kernel) (pa_cons (pv 4) pa_nil)) (pe_ifExp (pt_val (pe_ix ix_tup (pv 1) pe_int (fun _ _ => rfl))) pe_int pe_int)) (nomark _)))))))))), ?_⟩
  show BodyOk _ _ [.bo Int a_layers_here.l, .fx (T3 Int Int Bool) a_saying, .un, .un, .un, .un, .un, .un] (w_l_keeps a_layers_here a_saying)
  exact bo_ret (Δ := fun _ : Unit => [.un, .un, .un, .un, .un, .un, .un, .un]) (ΔL := fun e : Empty => e.elim) (st_seq (Δ1 := fun v1_s : (T2 Int Int) => [.bo Int a_layers_here.l, .fx (T3 Int Int Bool) a_saying, .fx Int v1_s.a, .fx Int v1_s.b, .un, .un, .un, .un]) (st_asg (ev_call (ea_cons ev_var ea_nil)) (eg_2 eg_name eg_name) rfl)
        fun v1_s => (st_seq (Δ1 := fun v3_s : (List Int) => [.bo Int a_layers_here.l, .fx (T3 Int Int Bool) a_saying, .fx Int v1_s.a, .fx Int v1_s.b, .fx (List Int) v3_s, .un, .un, .un]) (st_set (i := 4) (ev_fr (ef_comp (ei_enum es_bo (eg_2 eg_name eg_name)) (fun v2_x => (eb_test (ev_op (ov_eq sc_ii) (ev_op ov_and (ev_op ov_shr ev_var ev_var) ev_int) ev_int))) (fun v2_x => ev_var))))
        fun v3_s => (st_seq (Δ1 := fun v5_s : (List Int) => [.bo Int a_layers_here.l, .fx (T3 Int Int Bool) a_saying, .fx Int v1_s.a, .fx Int v1_s.b, .fx (List Int) v3_s, .fx (List Int) v5_s, .un, .un]) (st_set (i := 5) (ev_fr (ef_comp (ei_enum es_bo (eg_2 eg_name eg_name)) (fun v4_x => (eb_test (ev_op (ov_eq sc_ii) (ev_op ov_and (ev_op ov_shr ev_var ev_var) ev_int) ev_int))) (fun v4_x => ev_var))))
        fun v5_s => (st_seq (Δ1 := fun v6_s : Unit => [.bo Int a_layers_here.l, .fx (T3 Int Int Bool) a_saying, .fx Int v1_s.a, .fx Int v1_s.b, .fx (List Int) v3_s, .fx (List Int) v5_s, .un, .un]) (st_if (eb_test (ev_op ov_eqD (ev_bor ev_var) (ev_bor (ev_fr (ef_lst es_nil))))) (st_ret ev_bl) (st_nil () (Le.eq (Le.eq (Le.eq (Le.eq (Le.eq (Le.eq (Le.eq (Le.eq Le.nil))))))))))
        fun v6_s => (st_ret (ev_and (ev_op ov_neD (ev_bor ev_var) (ev_bor (ev_fr (ef_lst es_nil)))) (ev_op ov_ge (ev_ca1 cv_min (ev_bor ev_var)) (ev_op ov_add (ev_ca1 cv_min (ev_bor ev_var)) (ev_if (eb_val (ev_3c ev_var)) ev_int ev_int)))))))))
theorem ok_is_day_set (Z : Fa K mg) : FnOk P w K mg base (L2.CX P w) 5 Z.f_is_day_set Z.fd_is_day_set ["thing"] (SpF ⟨K, Z.cls⟩ (fun t : (Cn Int Nl) => w_is_day_set t.a)) := by
  refine def_ok _ Z.F_is_day_set sc_is_day_set rfl (by decide) fun cdv A outer s H E A0 Er t hr => ?_
  obtain ⟨a_thing, ⟨⟩⟩ := t
  refine ⟨_, (pss_one (ps_ret (pe_call (ok_is_whole Z) (hr.mono (by decide)) (by rfl) Z.D_is_whole.g Z.D_is_whole.kp Z.D_is_whole.b .nil (pass_of (E := E) (takes_of rfl rfl rfl rfl)) (pa_cons (pv 0) (pa_cons pe_int (pa_cons (pe_glob (v := .int 65535) (by rfl) Z.g_HIGHEST_DAY_SET ⟨_, rfl⟩) pa_nil)))))), ?_⟩
  show BodyOk _ _ [.fx Int a_thing] (w_is_day_set a_thing)
  exact bo_ret (Δ := fun _ : Unit => [.un]) (ΔL := fun e : Empty => e.elim) (st_ret (ev_call (ea_cons ev_var (ea_cons ev_int (ea_cons ev_int ea_nil)))))
theorem ok_Saying__init (Z : Fa K mg) : FnOk P w K mg base (L2.CX P w) 7 Z.f_Saying__init Z.fd_Saying__init ["self", "where", "then", "usual"] (SpI ⟨K, Z.cls⟩ (fun t : (Cn Int (Cn Int (Cn Bool Nl))) => w_Saying__init t.a t.r.a t.r.r.a)) := by
  refine init_okD2 _ Z.F_Saying__init sc_Saying__init rfl (by decide) fun cdv A outer s H E A0 H0 Er x t hr => ?_
  obtain ⟨a_where, a_then, a_usual, ⟨⟩⟩ := t
  exact ⟨_, (pss_cons (ps_if (PW.pt (pw_or (pt_not (pt_val (pe_call (ok_is_day_set Z) (hr.mono (by decide)) (by rfl) Z.D_is_day_set.g Z.D_is_day_set.kp Z.D_is_day_set.b .nil (pass_of (E := E) (takes_of rfl rfl rfl rfl)) (pa_cons (pv 1) pa_nil)))) (pw_or1 (pt_cmpR op_eq (pv 1) pe_int (nomark _))))) (pss_one (ps_raise rfl (takes_of rfl rfl rfl rfl) (pmk_fld Z.E_BadSaying.oex Z.E_BadSaying.iC Z.E_BadSaying.tI ((ok_BadSaying__init Z)) (hr.mono (by decide)) Z.E_BadSaying.b (by rfl) Z.E_BadSaying.g pe_str))) pss_nil)
        (pss_cons (ps_if (pt_not (pt_val (pe_call (ok_is_day_set Z) (hr.mono (by decide)) (by rfl) Z.D_is_day_set.g Z.D_is_day_set.kp Z.D_is_day_set.b .nil (pass_of (E := E) (takes_of rfl rfl rfl rfl)) (pa_cons (pv 2) pa_nil)))) (pss_one (ps_raise rfl (takes_of rfl rfl rfl rfl) (pmk_fld Z.E_BadSaying.oex Z.E_BadSaying.iC Z.E_BadSaying.tI ((ok_BadSaying__init Z)) (hr.mono (by decide)) Z.E_BadSaying.b (by rfl) Z.E_BadSaying.g pe_str))) pss_nil)
        (pss_cons (ps_if (pt_not (pt_val (pe_callB call_isi (by rfl) Z.z_isinstance (by decide +kernel) (pa_cons (pv 3) (pa_cons (pe_bltn (v := .ty "bool") (by rfl) Z.z_bool (by decide +kernel) rfl) pa_nil))))) (pss_one (ps_raise rfl (takes_of rfl rfl rfl rfl) (pmk_fld Z.E_BadSaying.oex Z.E_BadSaying.iC Z.E_BadSaying.tI ((ok_BadSaying__init Z)) (hr.mono (by decide)) Z.E_BadSaying.b (by rfl) Z.E_BadSaying.g pe_str))) pss_nil)
        (pss_cons (ps_fld (pv 0) (pv 1) rfl)
        (pss_cons (ps_fld (pv 0) (pv 2) rfl)
        (pss_cons (ps_fld (pv 0) (pv 3) rfl)
        (pss_cons (ps_fld (pv 0) (pe_op op_and (pv 1) (pv 2)) rfl)
        (pss_cons (ps_fld (pv 0) (pe_op op_and (pv 1) (pe_un un_inv (pv 2))) rfl)
        (pss_cons (ps_fld (pv 0) (pe_ifExp (pt_val (pv 3)) (pe_fld (pv 0) rfl) (pe_fld (pv 0) rfl)) rfl)
        (pss_cons (ps_fld (pv 0) (pe_ifExp (pt_val (pv 3)) (pe_fld (pv 0) rfl) (pe_fld (pv 0) rfl)) rfl)
        (pss_cons (ps_fld (pv 0) (pe_ifExp (pt_val (pv 3)) pe_int pe_int) rfl)
        pss_nil))))))))))), _, (st_seq (Δ1 := fun v1_s : Unit => [.ob 1 x [], .fx Int a_where, .fx Int a_then, .fx Bool a_usual]) (st_if (eb_or (eb_not (eb_val (ev_call (ea_cons ev_var ea_nil)))) (eb_test (ev_op (ov_eq sc_ii) ev_var ev_int))) (st_raise1 107 "what" ev_str) (st_nil () (Le.eq (Le.eq (Le.eq (Le.eq Le.nil))))))
        fun v1_s => (st_seq (Δ1 := fun v2_s : Unit => [.ob 1 x [], .fx Int a_where, .fx Int a_then, .fx Bool a_usual]) (st_if (eb_not (eb_val (ev_call (ea_cons ev_var ea_nil)))) (st_raise1 107 "what" ev_str) (st_nil () (Le.eq (Le.eq (Le.eq (Le.eq Le.nil))))))
        fun v2_s => (st_seq (Δ1 := fun v3_s : Unit => [.ob 1 x [], .fx Int a_where, .fx Int a_then, .fx Bool a_usual]) (st_if (eb_not (eb_val (ev_isi kd_bl (fun _ => true) (.ty "bool") (fun _ => (kit_ty (by decide +kernel))) ev_var))) (st_raise1 107 "what" ev_str) (st_nil () (Le.eq (Le.eq (Le.eq (Le.eq Le.nil))))))
        fun v3_s => (st_seq (Δ1 := fun v4_s : Int => [.ob 1 x [⟨"where", Int, inferInstance, v4_s⟩], .fx Int a_where, .fx Int a_then, .fx Bool a_usual]) (st_fld (i := 0) (C := 1) (x := x) (fs := []) Z.cl_Saying Z.no_Saying_where ev_var rfl (by first | decide | simp))
        fun v4_s => (st_seq (Δ1 := fun v5_s : Int => [.ob 1 x [⟨"where", Int, inferInstance, v4_s⟩, ⟨"then", Int, inferInstance, v5_s⟩], .fx Int a_where, .fx Int a_then, .fx Bool a_usual]) (st_fld (i := 0) (C := 1) (x := x) (fs := [⟨"where", Int, inferInstance, v4_s⟩]) Z.cl_Saying Z.no_Saying_then ev_var rfl (by first | decide | simp))
        fun v5_s => (st_seq (Δ1 := fun v6_s : Bool => [.ob 1 x [⟨"where", Int, inferInstance, v4_s⟩, ⟨"then", Int, inferInstance, v5_s⟩, ⟨"usual", Bool, inferInstance, v6_s⟩], .fx Int a_where, .fx Int a_then, .fx Bool a_usual]) (st_fld (i := 0) (C := 1) (x := x) (fs := [⟨"where", Int, inferInstance, v4_s⟩, ⟨"then", Int, inferInstance, v5_s⟩]) Z.cl_Saying Z.no_Saying_usual ev_var rfl (by first | decide | simp))
        fun v6_s => (st_seq (Δ1 := fun v7_s : Int => [.ob 1 x [⟨"where", Int, inferInstance, v4_s⟩, ⟨"then", Int, inferInstance, v5_s⟩, ⟨"usual", Bool, inferInstance, v6_s⟩, ⟨"confirm", Int, inferInstance, v7_s⟩], .fx Int a_where, .fx Int a_then, .fx Bool a_usual]) (st_fld (i := 0) (C := 1) (x := x) (fs := [⟨"where", Int, inferInstance, v4_s⟩, ⟨"then", Int, inferInstance, v5_s⟩, ⟨"usual", Bool, inferInstance, v6_s⟩]) Z.cl_Saying Z.no_Saying_confirm (ev_op ov_and ev_var ev_var) rfl (by first | decide | simp))
        fun v7_s => (st_seq (Δ1 := fun v8_s : Int => [.ob 1 x [⟨"where", Int, inferInstance, v4_s⟩, ⟨"then", Int, inferInstance, v5_s⟩, ⟨"usual", Bool, inferInstance, v6_s⟩, ⟨"confirm", Int, inferInstance, v7_s⟩, ⟨"broken", Int, inferInstance, v8_s⟩], .fx Int a_where, .fx Int a_then, .fx Bool a_usual]) (st_fld (i := 0) (C := 1) (x := x) (fs := [⟨"where", Int, inferInstance, v4_s⟩, ⟨"then", Int, inferInstance, v5_s⟩, ⟨"usual", Bool, inferInstance, v6_s⟩, ⟨"confirm", Int, inferInstance, v7_s⟩]) Z.cl_Saying Z.no_Saying_broken (ev_op ov_and ev_var (ev_un uv_inv ev_var)) rfl (by first | decide | simp))
        fun v8_s => (st_seq (Δ1 := fun v9_s : Int => [.ob 1 x [⟨"where", Int, inferInstance, v4_s⟩, ⟨"then", Int, inferInstance, v5_s⟩, ⟨"usual", Bool, inferInstance, v6_s⟩, ⟨"confirm", Int, inferInstance, v7_s⟩, ⟨"broken", Int, inferInstance, v8_s⟩, ⟨"low", Int, inferInstance, v9_s⟩], .fx Int a_where, .fx Int a_then, .fx Bool a_usual]) (st_fld (i := 0) (C := 1) (x := x) (fs := [⟨"where", Int, inferInstance, v4_s⟩, ⟨"then", Int, inferInstance, v5_s⟩, ⟨"usual", Bool, inferInstance, v6_s⟩, ⟨"confirm", Int, inferInstance, v7_s⟩, ⟨"broken", Int, inferInstance, v8_s⟩]) Z.cl_Saying Z.no_Saying_low (ev_if (eb_val ev_var) (ev_fldS Z.cl_Saying Z.no_Saying_confirm rfl) (ev_fldS Z.cl_Saying Z.no_Saying_broken rfl)) rfl (by first | decide | simp))
        fun v9_s => (st_seq (Δ1 := fun v10_s : Int => [.ob 1 x [⟨"where", Int, inferInstance, v4_s⟩, ⟨"then", Int, inferInstance, v5_s⟩, ⟨"usual", Bool, inferInstance, v6_s⟩, ⟨"confirm", Int, inferInstance, v7_s⟩, ⟨"broken", Int, inferInstance, v8_s⟩, ⟨"low", Int, inferInstance, v9_s⟩, ⟨"high", Int, inferInstance, v10_s⟩], .fx Int a_where, .fx Int a_then, .fx Bool a_usual]) (st_fld (i := 0) (C := 1) (x := x) (fs := [⟨"where", Int, inferInstance, v4_s⟩, ⟨"then", Int, inferInstance, v5_s⟩, ⟨"usual", Bool, inferInstance, v6_s⟩, ⟨"confirm", Int, inferInstance, v7_s⟩, ⟨"broken", Int, inferInstance, v8_s⟩, ⟨"low", Int, inferInstance, v9_s⟩]) Z.cl_Saying Z.no_Saying_high (ev_if (eb_val ev_var) (ev_fldS Z.cl_Saying Z.no_Saying_broken rfl) (ev_fldS Z.cl_Saying Z.no_Saying_confirm rfl)) rfl (by first | decide | simp))
        fun v10_s => (st_seq (Δ1 := fun v11_s : Int => [.ob 1 x [⟨"where", Int, inferInstance, v4_s⟩, ⟨"then", Int, inferInstance, v5_s⟩, ⟨"usual", Bool, inferInstance, v6_s⟩, ⟨"confirm", Int, inferInstance, v7_s⟩, ⟨"broken", Int, inferInstance, v8_s⟩, ⟨"low", Int, inferInstance, v9_s⟩, ⟨"high", Int, inferInstance, v10_s⟩, ⟨"step", Int, inferInstance, v11_s⟩], .fx Int a_where, .fx Int a_then, .fx Bool a_usual]) (st_fld (i := 0) (C := 1) (x := x) (fs := [⟨"where", Int, inferInstance, v4_s⟩, ⟨"then", Int, inferInstance, v5_s⟩, ⟨"usual", Bool, inferInstance, v6_s⟩, ⟨"confirm", Int, inferInstance, v7_s⟩, ⟨"broken", Int, inferInstance, v8_s⟩, ⟨"low", Int, inferInstance, v9_s⟩, ⟨"high", Int, inferInstance, v10_s⟩]) Z.cl_Saying Z.no_Saying_step (ev_if (eb_val ev_var) ev_int ev_int) rfl (by first | decide | simp))
        fun v11_s => (st_nil ((Saying.mk v4_s v5_s v6_s v7_s v8_s v9_s v10_s v11_s : Saying)) (by repeat first | exact Le.nil | apply Le.un | apply Le.eq))))))))))))), rfl⟩
theorem ok_l_said (Z : Fa K mg) : FnOk P w K mg base (L2.CX P w) 9 Z.f_l_said Z.fd_l_said ["_law_sayings"] (SpFr ⟨K, Z.cls⟩ (fun t : (Cn (Bor (T3 Int Int Bool)) Nl) => w_l_said t.a)) := by
  refine def_okF _ Z.F_l_said sc_l_said rfl (by decide) fun cdv A outer s H E A0 Er t hr => ?_
  obtain ⟨a_sayings, ⟨⟩⟩ := t
  refine ⟨_, (pss_one (ps_ret (pe_lc (own := [("_law_where", 1), ("_law_then", 2), ("_law_usual", 3)]) (g := gTup K 3 (gCons (gName 1) (gCons (gName 2) (gCons (gName 3) gNil)))) (tt := tYes) rfl sc_l_said.nd (pi_list (pv 0)) (blkOk_by (N := N_l_said) (sc := defScope s_l_said) (by decide +kernel)) (fun _ _ _ _ _ => (pg_tup rfl (pgs_cons (pg_name (i := 1) sc_l_said.nd rfl (Or.inl rfl)) (pgs_cons (pg_name (i := 2) sc_l_said.nd rfl (Or.inl rfl)) (pgs_cons (pg_name (i := 3) sc_l_said.nd rfl (Or.inl rfl)) pgs_nil))))) (fun _ _ _ _ _ => pts_nil) (fun _ _ _ _ _ => (pe_make Z.M_Saying (ok_Saying__init Z) (hr.mono (by decide)) (by rfl) Z.g_Saying Z.b_Saying__init .nil passL (pa_cons (pv 1) (pa_cons (pv 2) (pa_cons (pv 3) pa_nil)))))))), ?_⟩
  show EvF _ _ [.bo (T3 Int Int Bool) a_sayings.l, .un, .un, .un] (w_l_said a_sayings)
  exact (ef_comp (ei_list es_bo (eg_3 eg_name eg_name eg_name)) (fun _ => eb_yes) (fun v1_x => (ev_make (α := Saying) (ea_cons ev_var (ea_cons ev_var (ea_cons ev_var ea_nil))))))
theorem ok_Order_check_days (Z : Fa K mg) : FnOk P w K mg base (L2.CX P w) 5 Z.f_Order_check_days Z.fd_Order_check_days ["self", "days"] (SpF ⟨K, Z.cls⟩ (fun t : (Cn Order (Cn Int Nl)) => w_Order_check_days t.a t.r.a)) := by
  refine def_ok _ Z.F_Order_check_days sc_Order_check_days rfl (by decide) fun cdv A outer s H E A0 Er t hr => ?_
  obtain ⟨a_self, a_days, ⟨⟩⟩ := t
  refine ⟨_, (pss_cons (ps_if (pt_not (pt_val (pe_call (ok_is_whole Z) (hr.mono (by decide)) (by rfl) Z.D_is_whole.g Z.D_is_whole.kp Z.D_is_whole.b .nil (pass_of (E := E) (takes_of rfl rfl rfl rfl)) (pa_cons (pv 1) (pa_cons pe_int (pa_cons (pe_op op_sub (pe_op op_shl pe_int (pe_callB call_len_seq (by rfl) Z.z_len (by decide +kernel) (pa_cons (pe_fld (pv 0) rfl) pa_nil))) pe_int) pa_nil)))))) (pss_one (ps_raise rfl (takes_of rfl rfl rfl rfl) (pmk_pass Z.E_OtherDays.oex Z.E_OtherDays.iC Z.E_OtherDays.tI (ok_OtherDays__init Z) (hr.mono (by decide)) Z.E_OtherDays.b (by rfl) Z.E_OtherDays.g))) pss_nil)
        pss_nil), ?_⟩
  show BodyOk _ _ [.fx Order a_self, .fx Int a_days] (w_Order_check_days a_self a_days)
  exact bo_nx (Δ := fun _ : Unit => [.un, .un]) (ΔL := fun e : Empty => e.elim) (st_seq (Δ1 := fun v1_s : Unit => [.fx Order a_self, .fx Int a_days]) (st_if (eb_not (eb_val (ev_call (ea_cons ev_var (ea_cons ev_int (ea_cons (ev_op ov_sub (ev_op ov_shl ev_int (ev_ca1 cv_lenT (ev_fld (fun o : Order => o.layers) Z.cl_Order Z.no_Order_layers (fun _ => rfl) ev_var))) ev_int) ea_nil)))))) (st_raise0 112) (st_nil () (Le.eq (Le.eq Le.nil))))
        fun v1_s => (st_nil () (Le.un (Le.un Le.nil))))
theorem ok_days_in (Z : Fa K mg) : FnOk P w K mg base (L2.CX P w) 1 Z.f_days_in Z.fd_days_in ["day_set"] (SpF ⟨K, Z.cls⟩ (fun t : (Cn Int Nl) => w_days_in t.a)) := by
  refine def_ok _ Z.F_days_in sc_days_in rfl (by decide) fun cdv A outer s H E A0 Er t hr => ?_
  obtain ⟨a_day_set, ⟨⟩⟩ := t
  refine ⟨_, (pss_one (ps_ret (pe_callTy call_tuple_of (by rfl) Z.z_tuple (by decide +kernel) (pa_cons (pe_lc (own := [("day", 1)]) (g := gName 1) rfl sc_days_in.nd (pi_range1 (by rfl) Z.z_range (pa_cons (pe_bits (pv 0)) pa_nil)) (blkOk_by (N := N_days_in) (sc := defScope s_days_in) (by decide +kernel)) (fun _ _ _ _ _ => (pg_name (i := 1) sc_days_in.nd rfl (Or.inl rfl))) (fun _ _ _ _ _ => (pts_one (pt_truthK (K := K) rfl (pe_op op_and (pe_op op_shr (pv 0) (pv 1)) pe_int)))) (fun _ _ _ _ _ => (pv 1))) pa_nil)))), ?_⟩
  show BodyOk _ _ [.fx Int a_day_set, .un] (w_days_in a_day_set)
  exact bo_ret (Δ := fun _ : Unit => [.un, .un]) (ΔL := fun e : Empty => e.elim) (st_ret (ev_ca1 cv_tupL (ev_bor (ev_fr (ef_comp (ei_range1 (ev_bits ev_var) eg_name) (fun v1_x => (eb_truth (ev_op ov_and (ev_op ov_shr ev_var ev_var) ev_int))) (fun v1_x => ev_var))))))
theorem ok_Order_least (Z : Fa K mg) : FnOk P w K mg base (L2.CX P w) 7 Z.f_Order_least Z.fd_Order_least ["self", "days"] (SpF ⟨K, Z.cls⟩ (fun t : (Cn Order (Cn Int Nl)) => w_Order_least t.a t.r.a)) := by
  refine def_ok _ Z.F_Order_least sc_Order_least rfl (by decide) fun cdv A outer s H E A0 Er t hr => ?_
  obtain ⟨a_self, a_days, ⟨⟩⟩ := t
  refine ⟨_, (pss_cons (ps_expr (pe_meth (pv 0) Z.cl_Order Z.M_Order_check_days (ok_Order_check_days Z) (hr.mono (by decide)) Z.b_Order_check_days .nil (pass_of (E := E) (takes_of rfl rfl rfl rfl)) (pa_cons (pv 1) pa_nil)))
        (pss_one (ps_ret (pe_callBK (cr_minD rfl hr.units) (by rfl) Z.z_min (by decide +kernel) (pa_cons (pe_lc (own := [("day", 2)]) (g := gName 2) (tt := tYes) rfl sc_Order_least.nd (pi_tup (pe_call (ok_days_in Z) (hr.mono (by decide)) (by rfl) Z.D_days_in.g Z.D_days_in.kp Z.D_days_in.b .nil (pass_of (E := E) (takes_of rfl rfl rfl rfl)) (pa_cons (pv 1) pa_nil))) (blkOk_by (N := N_Order_least) (sc := defScope s_Order_least) (by decide +kernel)) (fun _ _ _ _ _ => (pg_name (i := 2) sc_Order_least.nd rfl (Or.inl rfl))) (fun _ _ _ _ _ => pts_nil) (fun _ _ _ _ _ => (pe_ix (ix_tupK (K := K) rfl) (pe_fldK (K := K) rfl (pv 0) rfl) (pv 2) (fun _ _ => rfl)))) pa_nil) (pk_cons pe_non pk_nil))))), ?_⟩
  show BodyOk _ _ [.fx Order a_self, .fx Int a_days, .un] (w_Order_least a_self a_days)
  exact bo_ret (Δ := fun _ : Unit => [.un, .un, .un]) (ΔL := fun e : Empty => e.elim) (st_seq (Δ1 := fun v1_s : Unit => [.fx Order a_self, .fx Int a_days, .un]) (st_drop (ev_meth (α := Order) (fun _ => rfl) ev_var (ea_cons ev_var ea_nil)))
        fun v1_s => (st_ret (ev_minD (ea_cons (ev_bor (ev_fr (ef_comp (ei_tup (es_tup (ev_call (ea_cons ev_var ea_nil))) eg_name) (fun _ => eb_yes) (fun v2_x => (ev_op ov_ixT (ev_fld (fun o : Order => o.layers) Z.cl_Order Z.no_Order_layers (fun _ => rfl) ev_var) ev_var))))) ea_nil) (ea_cons ev_non ea_nil))))
theorem ok_Order_keeps (Z : Fa K mg) : FnOk P w K mg base (L2.CX P w) 9 Z.f_Order_keeps Z.fd_Order_keeps ["self", "saying"] (SpF ⟨K, Z.cls⟩ (fun t : (Cn Order (Cn Saying Nl)) => w_Order_keeps t.a t.r.a)) := by
  refine def_ok _ Z.F_Order_keeps sc_Order_keeps rfl (by decide) fun cdv A outer s H E A0 Er t hr => ?_
  obtain ⟨a_self, a_saying, ⟨⟩⟩ := t
  refine ⟨_, (pss_cons (ps_expr (pe_meth (pv 0) Z.cl_Order Z.M_Order_check_days (ok_Order_check_days Z) (hr.mono (by decide)) Z.b_Order_check_days .nil (pass_of (E := E) (takes_of rfl rfl rfl rfl)) (pa_cons (pe_op op_or (pe_fld (pv 1) rfl) (pe_fld (pv 1) rfl)) pa_nil)))
        (pss_cons (ps_set (i := 2) sc_Order_keeps.nd rfl (Or.inl rfl) (pe_meth (pv 0) Z.cl_Order Z.M_Order_least (ok_Order_least Z) (hr.mono (by decide)) Z.b_Order_least .nil (pass_of (E := E) (takes_of rfl rfl rfl rfl)) (pa_cons (pe_fld (pv 1) rfl) pa_nil)))
        (pss_cons (ps_set (i := 3) sc_Order_keeps.nd rfl (Or.inl rfl) (pe_meth (pv 0) Z.cl_Order Z.M_Order_least (ok_Order_least Z) (hr.mono (by decide)) Z.b_Order_least .nil (pass_of (E := E) (takes_of rfl rfl rfl rfl)) (pa_cons (pe_fld (pv 1) rfl) pa_nil)))
        (pss_cons (ps_if (pt_cmpR op_isN (pv 3) pe_non (nomark _)) (pss_one (ps_ret pe_bl)) pss_nil)
        (pss_cons (ps_if (pt_cmpR op_isN (pv 2) pe_non (nomark _)) (pss_one (ps_ret pe_bl)) pss_nil)
        (pss_one (ps_ret (pe_cmpR op_ge (pv 3) (pe_op op_add (pv 2) (pe_fld (pv 1) rfl)) (nomark _))))))))), ?_⟩
  show BodyOk _ _ [.fx Order a_self, .fx Saying a_saying, .un, .un] (w_Order_keeps a_self a_saying)
  exact bo_ret (Δ := fun _ : Unit => [.un, .un, .un, .un]) (ΔL := fun e : Empty => e.elim) (st_seq (Δ1 := fun v1_s : Unit => [.fx Order a_self, .fx Saying a_saying, .un, .un]) (st_drop (ev_meth (α := Order) (fun _ => rfl) ev_var (ea_cons (ev_op ov_or (ev_fld (fun o : Saying => o.«where») Z.cl_Saying Z.no_Saying_where (fun _ => rfl) ev_var) (ev_fld (fun o : Saying => o.«then») Z.cl_Saying Z.no_Saying_then (fun _ => rfl) ev_var)) ea_nil)))
        fun v1_s => (st_seq (Δ1 := fun v2_s : (Option Int) => [.fx Order a_self, .fx Saying a_saying, .fx (Option Int) v2_s, .un]) (st_set (i := 2) (ev_meth (α := Order) (fun _ => rfl) ev_var (ea_cons (ev_fld (fun o : Saying => o.low) Z.cl_Saying Z.no_Saying_low (fun _ => rfl) ev_var) ea_nil)))
        fun v2_s => (st_seq (Δ1 := fun v3_s : (Option Int) => [.fx Order a_self, .fx Saying a_saying, .fx (Option Int) v2_s, .fx (Option Int) v3_s]) (st_set (i := 3) (ev_meth (α := Order) (fun _ => rfl) ev_var (ea_cons (ev_fld (fun o : Saying => o.high) Z.cl_Saying Z.no_Saying_high (fun _ => rfl) ev_var) ea_nil)))
        fun v3_s => (st_seq (Δ1 := fun v4_s : Unit => [.fx Order a_self, .fx Saying a_saying, .fx (Option Int) v2_s, .fx (Option Int) v3_s]) (st_if (eb_test (ev_isN ev_var)) (st_ret ev_bl) (st_nil () (Le.eq (Le.eq (Le.eq (Le.eq Le.nil))))))
        fun v4_s => (st_seq (Δ1 := fun v5_s : Unit => [.fx Order a_self, .fx Saying a_saying, .fx (Option Int) v2_s, .fx (Option Int) v3_s]) (st_if (eb_test (ev_isN ev_var)) (st_ret ev_bl) (st_nil () (Le.eq (Le.eq (Le.eq (Le.eq Le.nil))))))
        fun v5_s => (st_ret (ev_op ov_ge (ev_the ev_var) (ev_op ov_add (ev_the ev_var) (ev_fld (fun o : Saying => o.step) Z.cl_Saying Z.no_Saying_step (fun _ => rfl) ev_var)))))))))
theorem ok_Order_first_not_kept (Z : Fa K mg) : FnOk P w K mg base (L2.CX P w) 11 Z.f_Order_first_not_kept Z.fd_Order_first_not_kept ["self", "sayings"] (SpF ⟨K, Z.cls⟩ (fun t : (Cn Order (Cn (Bor Saying) Nl)) => w_Order_first_not_kept t.a t.r.a)) := by
  refine def_ok _ Z.F_Order_first_not_kept sc_Order_first_not_kept rfl (by decide) fun cdv A outer s H E A0 Er t hr => ?_
  obtain ⟨a_self, a_sayings, ⟨⟩⟩ := t
  refine ⟨_, (pss_cons (ps_for (passes_of rfl) rfl (pi_list (pv 1)) (pg_name (i := 2) sc_Order_first_not_kept.nd rfl (Or.inl rfl)) (pss_cons (ps_expr (pe_meth (pv 0) Z.cl_Order Z.M_Order_check_days (ok_Order_check_days Z) (hr.mono (by decide)) Z.b_Order_check_days .nil (pass_of (E := E) (takes_of rfl rfl rfl rfl)) (pa_cons (pe_op op_or (pe_fld (pv 2) rfl) (pe_fld (pv 2) rfl)) pa_nil)))
        pss_nil))
        (pss_cons (ps_for (passes_of rfl) rfl (pi_enum (by rfl) Z.z_enumerate (pa_cons (pv 1) pa_nil)) (pg_tup rfl (pgs_cons (pg_name (i := 3) sc_Order_first_not_kept.nd rfl (Or.inl rfl)) (pgs_cons (pg_name (i := 2) sc_Order_first_not_kept.nd rfl (Or.inl rfl)) pgs_nil))) (pss_cons (ps_if (pt_not (pt_val (pe_meth (pv 0) Z.cl_Order Z.M_Order_keeps (ok_Order_keeps Z) (hr.mono (by decide)) Z.b_Order_keeps .nil (pass_of (E := E) (takes_of rfl rfl rfl rfl)) (pa_cons (pv 2) pa_nil)))) (pss_one (ps_ret (pv 3))) pss_nil)
        pss_nil))
        (pss_one (ps_ret pe_non)))), ?_⟩
  show BodyOk _ _ [.fx Order a_self, .bo Saying a_sayings.l, .un, .un] (w_Order_first_not_kept a_self a_sayings)
  exact bo_ret (Δ := fun _ : Unit => [.un, .un, .un, .un]) (ΔL := fun e : Empty => e.elim) (st_seq (Δ1 := fun v4_s : Unit => [.fx Order a_self, .bo Saying a_sayings.l, .un, .un]) (st_for (Δ := fun v2_s : Unit => [.fx Order a_self, .bo Saying a_sayings.l, .un, .un]) () (ei_list es_bo eg_name) (Le.eq (Le.eq (Le.eq (Le.eq Le.nil)))) (fun _ => rfl) fun v1_x v2_s => (st_seq (Δ1 := fun v3_s : Unit => [.fx Order a_self, .bo Saying a_sayings.l, .fx Saying v1_x, .un]) (st_drop (ev_meth (α := Order) (fun _ => rfl) ev_var (ea_cons (ev_op ov_or (ev_fld (fun o : Saying => o.«where») Z.cl_Saying Z.no_Saying_where (fun _ => rfl) ev_var) (ev_fld (fun o : Saying => o.«then») Z.cl_Saying Z.no_Saying_then (fun _ => rfl) ev_var)) ea_nil)))
        fun v3_s => (st_nil () (Le.eq (Le.eq (Le.un (Le.eq Le.nil)))))))
        fun v4_s => (st_seq (Δ1 := fun v8_s : Unit => [.fx Order a_self, .bo Saying a_sayings.l, .un, .un]) (st_for (Δ := fun v6_s : Unit => [.fx Order a_self, .bo Saying a_sayings.l, .un, .un]) () (ei_enum es_bo (eg_2 eg_name eg_name)) (Le.eq (Le.eq (Le.eq (Le.eq Le.nil)))) (fun _ => rfl) fun v5_x v6_s => (st_seq (Δ1 := fun v7_s : Unit => [.fx Order a_self, .bo Saying a_sayings.l, .fx Saying v5_x.b, .fx Int v5_x.a]) (st_if (eb_not (eb_val (ev_meth (α := Order) (fun _ => rfl) ev_var (ea_cons ev_var ea_nil)))) (st_ret (ev_some ev_var)) (st_nil () (Le.eq (Le.eq (Le.eq (Le.eq Le.nil))))))
        fun v7_s => (st_nil () (Le.eq (Le.eq (Le.un (Le.un Le.nil)))))))
        fun v8_s => (st_ret (ev_none ev_non))))
theorem ok_Order_keeps_all (Z : Fa K mg) : FnOk P w K mg base (L2.CX P w) 13 Z.f_Order_keeps_all Z.fd_Order_keeps_all ["self", "sayings"] (SpF ⟨K, Z.cls⟩ (fun t : (Cn Order (Cn (Bor Saying) Nl)) => w_Order_keeps_all t.a t.r.a)) := by
  refine def_ok _ Z.F_Order_keeps_all sc_Order_keeps_all rfl (by decide) fun cdv A outer s H E A0 Er t hr => ?_
  obtain ⟨a_self, a_sayings, ⟨⟩⟩ := t
  refine ⟨_, (pss_one (ps_ret (pe_cmpR op_isN (pe_meth (pv 0) Z.cl_Order Z.M_Order_first_not_kept (ok_Order_first_not_kept Z) (hr.mono (by decide)) Z.b_Order_first_not_kept .nil (pass_of (E := E) (takes_of rfl rfl rfl rfl)) (pa_cons (pv 1) pa_nil)) pe_non (nomark _)))), ?_⟩
  show BodyOk _ _ [.fx Order a_self, .bo Saying a_sayings.l] (w_Order_keeps_all a_self a_sayings)
  exact bo_ret (Δ := fun _ : Unit => [.un, .un]) (ΔL := fun e : Empty => e.elim) (st_ret (ev_isN (ev_meth (α := Order) (fun _ => rfl) ev_var (ea_cons ev_bo ea_nil))))
theorem ok_Order__call (Z : Fa K mg) : FnOk P w K mg base (L2.CX P w) 13 Z.f_Order__call Z.fd_Order__call ["self", "sayings"] (SpF ⟨K, Z.cls⟩ (fun t : (Cn Order (Cn (Bor Saying) Nl)) => w_Order__call t.a t.r.a)) := by
  refine def_ok _ Z.F_Order__call sc_Order__call rfl (by decide) fun cdv A outer s H E A0 Er t hr => ?_
  obtain ⟨a_self, a_sayings, ⟨⟩⟩ := t
  refine ⟨_, (pss_one (ps_ret (pe_meth (pv 0) Z.cl_Order Z.M_Order_first_not_kept (ok_Order_first_not_kept Z) (hr.mono (by decide)) Z.b_Order_first_not_kept .nil (pass_of (E := E) (takes_of rfl rfl rfl rfl)) (pa_cons (pv 1) pa_nil)))), ?_⟩
  show BodyOk _ _ [.fx Order a_self, .bo Saying a_sayings.l] (w_Order__call a_self a_sayings)
  exact bo_ret (Δ := fun _ : Unit => [.un, .un]) (ΔL := fun e : Empty => e.elim) (st_ret (ev_meth (α := Order) (fun _ => rfl) ev_var (ea_cons ev_bo ea_nil)))
theorem ok_Order_closed (Z : Fa K mg) : FnOk P w K mg base (L2.CX P w) 9 Z.f_Order_closed Z.fd_Order_closed ["self"] (SpF ⟨K, Z.cls⟩ (fun t : (Cn Order Nl) => w_Order_closed t.a)) := by
  refine def_ok _ Z.F_Order_closed sc_Order_closed rfl (by decide) fun cdv A outer s H E A0 Er t hr => ?_
  obtain ⟨a_self, ⟨⟩⟩ := t
  refine ⟨_, (pss_cons (ps_set (i := 1) sc_Order_closed.nd rfl (Or.inl rfl) (pe_callB (call_srtS rfl) (by rfl) Z.z_sorted (by decide +kernel) (pa_cons (pe_callTy (call_setT rfl) (by rfl) Z.z_set (by decide +kernel) (pa_cons (pe_fld (pv 0) rfl) pa_nil)) pa_nil)))
        (pss_cons (ps_set (i := 2) sc_Order_closed.nd rfl (Or.inr rfl) (pe_dc (own := [("place", 3), ("layer", 4)]) (g := gTup K 2 (gCons (gName 3) (gCons (gName 4) gNil))) (tt := tYes) rfl sc_Order_closed.nd (pi_enum (by rfl) Z.z_enumerate (pa_cons (pv 1) pa_nil)) (blkOk_by (N := N_Order_closed) (sc := defScope s_Order_closed) (by decide +kernel)) (fun _ _ _ _ _ => (pg_tup rfl (pgs_cons (pg_name (i := 3) sc_Order_closed.nd rfl (Or.inl rfl)) (pgs_cons (pg_name (i := 4) sc_Order_closed.nd rfl (Or.inl rfl)) pgs_nil)))) (fun _ _ _ _ _ => pts_nil) (fun _ _ _ _ _ => (pv 4)) (fun _ _ _ _ _ => (pv 3))))
        (pss_one (ps_ret (pe_make Z.M_Order (ok_Order__init Z) (hr.mono (by decide)) (by rfl) Z.g_Order Z.b_Order__init .nil (pass_of (E := E) (takes_of rfl rfl rfl rfl)) (pa_cons (pe_lc (own := [("layer", 4)]) (g := gName 4) (tt := tYes) rfl sc_Order_closed.nd (pi_tup (pe_fld (pv 0) rfl)) (blkOk_by (N := N_Order_closed) (sc := defScope s_Order_closed) (by decide +kernel)) (fun _ _ _ _ _ => (pg_name (i := 4) sc_Order_closed.nd rfl (Or.inl rfl))) (fun _ _ _ _ _ => pts_nil) (fun _ _ _ _ _ => (pe_dget (u1 hr.units) (pv 2) (pv 4) (fun _ _ => rfl)))) pa_nil)))))), ?_⟩
  show BodyOk _ _ [.fx Order a_self, .un, .un, .un, .un] (w_Order_closed a_self)
  exact bo_ret (Δ := fun _ : Unit => [.un, .un, .un, .un, .un]) (ΔL := fun e : Empty => e.elim) (st_seq (Δ1 := fun v1_s : (List Int) => [.fx Order a_self, .fx (List Int) v1_s, .un, .un, .un]) (st_set (i := 1) (ev_fr (ef_srtS (ev_fld (fun o : Order => o.layers) Z.cl_Order Z.no_Order_layers (fun _ => rfl) ev_var))))
        fun v1_s => (st_seq (Δ1 := fun v3_s : (Dct Int) => [.fx Order a_self, .fx (List Int) v1_s, .fx (Dct Int) v3_s, .un, .un]) (st_set (i := 2) (ev_dcomp (ei_enum (es_list ev_var) (eg_2 eg_name eg_name)) (fun _ => eb_yes) (fun v2_x => ev_var) (fun v2_x => ev_var)))
        fun v3_s => (st_ret (ev_make (α := Order) (ea_cons (ev_bor (ev_fr (ef_comp (ei_tup (es_tup (ev_fld (fun o : Order => o.layers) Z.cl_Order Z.no_Order_layers (fun _ => rfl) ev_var)) eg_name) (fun _ => eb_yes) (fun v5_x => (ev_dget ev_var ev_var))))) ea_nil)))))
theorem ok_l_closed (Z : Fa K mg) : FnOk P w K mg base (L2.CX P w) 11 Z.f_l_closed Z.fd_l_closed ["_law_order", "_law_layers_here", "_law_sayings"] (SpF ⟨K, Z.cls⟩ (fun t : (Cn Order (Cn (Bor Int) (Cn (Bor (T3 Int Int Bool)) Nl))) => w_l_closed t.a t.r.a t.r.r.a)) := by
  refine def_ok _ Z.F_l_closed sc_l_closed rfl (by decide) fun cdv A outer s H E A0 Er t hr => ?_
  obtain ⟨a_order, a_layers_here, a_sayings, ⟨⟩⟩ := t
  refine ⟨_, (pss_cons (ps_set (i := 3) sc_l_closed.nd rfl (Or.inl rfl) (pe_meth0 (pv 0) Z.cl_Order Z.M_Order_closed (ok_Order_closed Z) (hr.mono (by decide)) Z.b_Order_closed .nil (pass_of (E := E) (takes_of rfl rfl rfl rfl))))
        (pss_cons (ps_set (i := 4) sc_l_closed.nd rfl (Or.inl rfl) (pe_callB (call_srtS rfl) (by rfl) Z.z_sorted (by decide +kernel) (pa_cons (pe_callTy (call_setT rfl) (by rfl) Z.z_set (by decide +kernel) (pa_cons (pe_fld (pv 3) rfl) pa_nil)) pa_nil)))
        (pss_cons (ps_if (PW.pt (pw_or (pt_cmpR (op_neD hr.units) (pv 4) (pe_listRg rfl (by rfl) Z.z_list (prg_1 (by rfl) Z.z_range (pe_callB call_len_seq (by rfl) Z.z_len (by decide +kernel) (pa_cons (pv 4) pa_nil)))) (nomark _)) (pw_or (pt_not (pt_cmpR (op_ownD (op := .Eq) (fun _ _ => rfl) Z.x_Order__eq Z.xf_Order__eq ((ok_Order__eq Z).raw Z.b_Order__eq .nil) (hr.mono (by decide)) (pass_of (E := E) (takes_of rfl rfl rfl rfl))) (pv 3) (pe_meth0 (pv 3) Z.cl_Order Z.M_Order_closed (ok_Order_closed Z) (hr.mono (by decide)) Z.b_Order_closed .nil (pass_of (E := E) (takes_of rfl rfl rfl rfl))) (nomark _))) (pw_or1 (pt_cmpR op_notBl (pe_meth (pv 3) Z.cl_Order Z.M_Order_beneath (ok_Order_beneath Z) (hr.mono (by decide)) Z.b_Order_beneath .nil (pass_of (E := E) (takes_of rfl rfl rfl rfl)) (pa_cons (pv 0) pa_nil)) pe_bl (nomark _)))))) (pss_one (ps_ret pe_bl)) pss_nil)
        (pss_cons (ps_for (passes_of rfl) rfl (pi_zip (by rfl) Z.z_zip (pa_cons (pv 2) (pa_cons (pe_call (ok_l_said Z) (hr.mono (by decide)) (by rfl) Z.D_l_said.g Z.D_l_said.kp Z.D_l_said.b .nil (pass_of (E := E) (takes_of rfl rfl rfl rfl)) (pa_cons (pv 2) pa_nil)) pa_nil))) (pg_tup rfl (pgs_cons (pg_name (i := 5) sc_l_closed.nd rfl (Or.inl rfl)) (pgs_cons (pg_name (i := 6) sc_l_closed.nd rfl (Or.inl rfl)) pgs_nil))) (pss_cons (ps_set (i := 7) sc_l_closed.nd rfl (Or.inl rfl) (pe_call (ok_l_keeps Z) (hr.mono (by decide)) (by rfl) Z.D_l_keeps.g Z.D_l_keeps.kp Z.D_l_keeps.b .nil (pass_of (E := E) (takes_of rfl rfl rfl rfl)) (pa_cons (pv 1) (pa_cons (pv 5) pa_nil))))
        (pss_cons (ps_if (PW.pt (pw_or (pt_not (pt_val (pe_call (ok_l_flag Z) (hr.mono (by decide)) (by rfl) Z.D_l_flag.g Z.D_l_flag.kp Z.D_l_flag.b .nil (pass_of (E := E) (takes_of rfl rfl rfl rfl)) (pa_cons (pe_meth (pv 0) Z.cl_Order Z.M_Order_keeps (ok_Order_keeps Z) (hr.mono (by decide)) Z.b_Order_keeps .nil (pass_of (E := E) (takes_of rfl rfl rfl rfl)) (pa_cons (pv 6) pa_nil)) (pa_cons (pv 7) pa_nil))))) (pw_or1 (pt_not (pt_val (pe_call (ok_l_flag Z) (hr.mono (by decide)) (by rfl) Z.D_l_flag.g Z.D_l_flag.kp Z.D_l_flag.b .nil (pass_of (E := E) (takes_of rfl rfl rfl rfl)) (pa_cons (pe_meth (pv 3) Z.cl_Order Z.M_Order_keeps (ok_Order_keeps Z) (hr.mono (by decide)) Z.b_Order_keeps .nil (pass_of (E := E) (takes_of rfl rfl rfl rfl)) (pa_cons (pv 6) pa_nil)) (pa_cons (pv 7) pa_nil)))))))) (pss_one (ps_ret pe_bl)) pss_nil)
        pss_nil)))
        (pss_one (ps_ret pe_bl)))))), ?_⟩
  show BodyOk _ _ [.fx Order a_order, .bo Int a_layers_here.l, .bo (T3 Int Int Bool) a_sayings.l, .un, .un, .un, .un, .un] (w_l_closed a_order a_layers_here a_sayings)
  exact bo_ret (Δ := fun _ : Unit => [.un, .un, .un, .un, .un, .un, .un, .un]) (ΔL := fun e : Empty => e.elim) (st_seq (Δ1 := fun v1_s : Order => [.fx Order a_order, .bo Int a_layers_here.l, .bo (T3 Int Int Bool) a_sayings.l, .fx Order v1_s, .un, .un, .un, .un]) (st_set (i := 3) (ev_meth (α := Order) (fun _ => rfl) ev_var ea_nil))
        fun v1_s => (st_seq (Δ1 := fun v2_s : (List Int) => [.fx Order a_order, .bo Int a_layers_here.l, .bo (T3 Int Int Bool) a_sayings.l, .fx Order v1_s, .fx (List Int) v2_s, .un, .un, .un]) (st_set (i := 4) (ev_fr (ef_srtS (ev_fld (fun o : Order => o.layers) Z.cl_Order Z.no_Order_layers (fun _ => rfl) ev_var))))
        fun v2_s => (st_seq (Δ1 := fun v3_s : Unit => [.fx Order a_order, .bo Int a_layers_here.l, .bo (T3 Int Int Bool) a_sayings.l, .fx Order v1_s, .fx (List Int) v2_s, .un, .un, .un]) (st_if (eb_or (eb_test (ev_op ov_neD (ev_bor ev_var) (ev_bor (ev_fr (ef_listRg (ev_ca1 cv_lenL (ev_bor ev_var))))))) (eb_or (eb_not (eb_test (ev_ownD (α := Order) (kd_obj Z.cty_Order) (fun _ => nf_same _ _) ev_var (ev_meth (α := Order) (fun _ => rfl) ev_var ea_nil)))) (eb_test (ev_op ov_isnot (ev_meth (α := Order) (fun _ => rfl) ev_var (ea_cons ev_var ea_nil)) ev_bl)))) (st_ret ev_bl) (st_nil () (Le.eq (Le.eq (Le.eq (Le.eq (Le.eq (Le.eq (Le.eq (Le.eq Le.nil))))))))))
        fun v3_s => (st_seq (Δ1 := fun v8_s : Unit => [.fx Order a_order, .bo Int a_layers_here.l, .bo (T3 Int Int Bool) a_sayings.l, .fx Order v1_s, .fx (List Int) v2_s, .un, .un, .un]) (st_for (Δ := fun v5_s : Unit => [.fx Order a_order, .bo Int a_layers_here.l, .bo (T3 Int Int Bool) a_sayings.l, .fx Order v1_s, .fx (List Int) v2_s, .un, .un, .un]) () (ei_zip es_bo (es_list (ev_fr (ef_call (ea_cons ev_bo ea_nil)))) (eg_2 eg_name eg_name)) (Le.eq (Le.eq (Le.eq (Le.eq (Le.eq (Le.eq (Le.eq (Le.eq Le.nil)))))))) (fun _ => rfl) fun v4_x v5_s => (st_seq (Δ1 := fun v6_s : Bool => [.fx Order a_order, .bo Int a_layers_here.l, .bo (T3 Int Int Bool) a_sayings.l, .fx Order v1_s, .fx (List Int) v2_s, .fx (T3 Int Int Bool) v4_x.a, .fx Saying v4_x.b, .fx Bool v6_s]) (st_set (i := 7) (ev_call (ea_cons ev_bo (ea_cons ev_var ea_nil))))
        fun v6_s => (st_seq (Δ1 := fun v7_s : Unit => [.fx Order a_order, .bo Int a_layers_here.l, .bo (T3 Int Int Bool) a_sayings.l, .fx Order v1_s, .fx (List Int) v2_s, .fx (T3 Int Int Bool) v4_x.a, .fx Saying v4_x.b, .fx Bool v6_s]) (st_if (eb_or (eb_not (eb_val (ev_call (ea_cons (ev_meth (α := Order) (fun _ => rfl) ev_var (ea_cons ev_var ea_nil)) (ea_cons ev_var ea_nil))))) (eb_not (eb_val (ev_call (ea_cons (ev_meth (α := Order) (fun _ => rfl) ev_var (ea_cons ev_var ea_nil)) (ea_cons ev_var ea_nil)))))) (st_ret ev_bl) (st_nil () (Le.eq (Le.eq (Le.eq (Le.eq (Le.eq (Le.eq (Le.eq (Le.eq Le.nil))))))))))
        fun v7_s => (st_nil () (Le.eq (Le.eq (Le.eq (Le.eq (Le.eq (Le.un (Le.un (Le.un Le.nil))))))))))))
        fun v8_s => (st_ret ev_bl)))))
theorem ok_name_fault (Z : Fa K mg) : FnOk P w K mg base (L2.CX P w) 1 Z.f_name_fault Z.fd_name_fault ["name"] (SpF ⟨K, Z.cls⟩ (fun t : (Cn Str Nl) => w_name_fault t.a)) := by
  refine def_ok _ Z.F_name_fault sc_name_fault rfl (by decide) fun cdv A outer s H E A0 Er t hr => ?_
  obtain ⟨a_name, ⟨⟩⟩ := t
  refine ⟨_, (pss_cons (ps_if (PW.pt (pw_or (pt_not (pt_val (pe_callB call_isi (by rfl) Z.z_isinstance (by decide +kernel) (pa_cons (pv 0) (pa_cons (pe_bltn (v := .ty "str") (by rfl) Z.z_str (by decide +kernel) rfl) pa_nil))))) (pw_or1 (pt_not (pt_chain op_le op_le pe_int (pe_callB call_len_str (by rfl) Z.z_len (by decide +kernel) (pa_cons (pv 0) pa_nil)) (pe_glob (v := .int 8) (by rfl) Z.g_LONGEST_NAME ⟨_, rfl⟩)))))) (pss_one (ps_ret pe_str)) pss_nil)
        (pss_cons (ps_if (pt_not (pt_val (pe_callB (cr_all rfl) (by rfl) Z.z_all (by decide +kernel) (pa_cons (pe_lc (own := [("letter", 1)]) (g := gName 1) (tt := tYes) rfl sc_name_fault.nd (pi_str (pv 0)) (blkOk_by (N := N_name_fault) (sc := defScope s_name_fault) (by decide +kernel)) (fun _ _ _ _ _ => (pg_name (i := 1) sc_name_fault.nd rfl (Or.inl rfl))) (fun _ _ _ _ _ => pts_nil) (fun _ _ _ _ _ => (pe_chain op_le_str op_le_str pe_str (pv 1) pe_str))) pa_nil)))) (pss_one (ps_ret pe_str)) pss_nil)
        (pss_cons (ps_if (pt_cmpR op_in_seq (pv 0) (pe_glob (v := .ref Z.a_KEPT_WORDS) (by rfl) Z.g_KEPT_WORDS rfl) (by rfl)) (pss_one (ps_ret pe_str)) pss_nil)
        (pss_one (ps_ret pe_non))))), ?_⟩
  show BodyOk _ _ [.fx Str a_name, .un] (w_name_fault a_name)
  exact bo_ret (Δ := fun _ : Unit => [.un, .un]) (ΔL := fun e : Empty => e.elim) (st_seq (Δ1 := fun v1_s : Unit => [.fx Str a_name, .un]) (st_if (eb_or (eb_not (eb_val (ev_isi kd_str (fun _ => true) (.ty "str") (fun _ => (kit_ty (by decide +kernel))) ev_var))) (eb_not (eb_test (ev_chain ov_le ov_le ev_int (ev_ca1 cv_lenStr ev_var) ev_int)))) (st_ret (ev_some ev_str)) (st_nil () (Le.eq (Le.eq Le.nil))))
        fun v1_s => (st_seq (Δ1 := fun v3_s : Unit => [.fx Str a_name, .un]) (st_if (eb_not (eb_val (ev_ca1 cv_all (ev_bor (ev_fr (ef_comp (ei_str ev_var eg_name) (fun _ => eb_yes) (fun v2_x => (ev_chain ov_leS ov_leS ev_str ev_var ev_str)))))))) (st_ret (ev_some ev_str)) (st_nil () (Le.eq (Le.eq Le.nil))))
        fun v3_s => (st_seq (Δ1 := fun v4_s : Unit => [.fx Str a_name, .un]) (st_if (eb_test (ev_op ov_inT ev_var (ev_ctup (ctupS Z.q_KEPT_WORDS)))) (st_ret (ev_some ev_str)) (st_nil () (Le.eq (Le.eq Le.nil))))
        fun v4_s => (st_ret (ev_none ev_non)))))
theorem ok_check_names (Z : Fa K mg) : FnOk P w K mg base (L2.CX P w) 3 Z.f_check_names Z.fd_check_names ["names"] (SpF ⟨K, Z.cls⟩ (fun t : (Cn (Bor Str) Nl) => w_check_names t.a)) := by
  refine def_ok _ Z.F_check_names sc_check_names rfl (by decide) fun cdv A outer s H E A0 Er t hr => ?_
  obtain ⟨a_names, ⟨⟩⟩ := t
  refine ⟨_, (pss_cons (ps_if (PW.pt (pw_or (pt_not (pt_val (pe_callB call_isiT (by rfl) Z.z_isinstance (by decide +kernel) (pa_cons (pv 0) (pa_cons (pe_tup (pa_cons (pe_bltn (v := .ty "list") (by rfl) Z.z_list (by decide +kernel) rfl) (pa_cons (pe_bltn (v := .ty "tuple") (by rfl) Z.z_tuple (by decide +kernel) rfl) pa_nil))) pa_nil))))) (pw_or1 (pt_not (pt_chain op_le op_le pe_int (pe_callB call_len_seq (by rfl) Z.z_len (by decide +kernel) (pa_cons (pv 0) pa_nil)) (pe_glob (v := .int 4) (by rfl) Z.g_MOST_MARKS ⟨_, rfl⟩)))))) (pss_one (ps_raise rfl (takes_of rfl rfl rfl rfl) (pmk_fld2 Z.E_BadMarks.oex Z.E_BadMarks.iC Z.E_BadMarks.tI (ok_BadMarks__init Z) (hr.mono (by decide)) Z.E_BadMarks.b (by rfl) Z.E_BadMarks.g pe_str pe_non))) pss_nil)
        (pss_cons (ps_for (passes_of rfl) rfl (pi_enum (by rfl) Z.z_enumerate (pa_cons (pv 0) pa_nil)) (pg_tup rfl (pgs_cons (pg_name (i := 1) sc_check_names.nd rfl (Or.inl rfl)) (pgs_cons (pg_name (i := 2) sc_check_names.nd rfl (Or.inl rfl)) pgs_nil))) (pss_cons (ps_set (i := 3) sc_check_names.nd rfl (Or.inl rfl) (pe_call (ok_name_fault Z) (hr.mono (by decide)) (by rfl) Z.D_name_fault.g Z.D_name_fault.kp Z.D_name_fault.b .nil (pass_of (E := E) (takes_of rfl rfl rfl rfl)) (pa_cons (pv 2) pa_nil)))
        (pss_cons (ps_if (pt_cmpR op_notN (pv 3) pe_non (nomark _)) (pss_one (ps_raise rfl (takes_of rfl rfl rfl rfl) (pmk_fld2 Z.E_BadMarks.oex Z.E_BadMarks.iC Z.E_BadMarks.tI (ok_BadMarks__init Z) (hr.mono (by decide)) Z.E_BadMarks.b (by rfl) Z.E_BadMarks.g (pv 3) (pv 1)))) pss_nil)
        (pss_cons (ps_if (pt_cmpR op_in_seq (pv 2) (pe_slice sl_list (pv 0) po_none (po_some (pv 1))) (by rfl)) (pss_one (ps_raise rfl (takes_of rfl rfl rfl rfl) (pmk_fld2 Z.E_BadMarks.oex Z.E_BadMarks.iC Z.E_BadMarks.tI (ok_BadMarks__init Z) (hr.mono (by decide)) Z.E_BadMarks.b (by rfl) Z.E_BadMarks.g pe_str (pv 1)))) pss_nil)
        pss_nil))))
        pss_nil)), ?_⟩
  show BodyOk _ _ [.bo Str a_names.l, .un, .un, .un] (w_check_names a_names)
  exact bo_nx (Δ := fun _ : Unit => [.un, .un, .un, .un]) (ΔL := fun e : Empty => e.elim) (st_seq (Δ1 := fun v1_s : Unit => [.bo Str a_names.l, .un, .un, .un]) (st_if (eb_or (eb_not (eb_val (ev_isi2 kd_bor (fun _ => true) (.ty "list") (.ty "tuple") (fun _ => kit2 (b1 := true) (b2 := false) (kit_ty (by decide +kernel)) (kit_ty (by decide +kernel))) ev_bo))) (eb_not (eb_test (ev_chain ov_le ov_le ev_int (ev_ca1 cv_lenL ev_bo) ev_int)))) (st_raise2 102 "what" "index" ev_str ev_non) (st_nil () (Le.eq (Le.eq (Le.eq (Le.eq Le.nil))))))
        fun v1_s => (st_seq (Δ1 := fun v7_s : Unit => [.bo Str a_names.l, .un, .un, .un]) (st_for (Δ := fun v3_s : Unit => [.bo Str a_names.l, .un, .un, .un]) () (ei_enum es_bo (eg_2 eg_name eg_name)) (Le.eq (Le.eq (Le.eq (Le.eq Le.nil)))) (fun _ => rfl) fun v2_x v3_s => (st_seq (Δ1 := fun v4_s : (Option Str) => [.bo Str a_names.l, .fx Int v2_x.a, .fx Str v2_x.b, .fx (Option Str) v4_s]) (st_set (i := 3) (ev_call (ea_cons ev_var ea_nil)))
        fun v4_s => (st_seq (Δ1 := fun v5_s : Unit => [.bo Str a_names.l, .fx Int v2_x.a, .fx Str v2_x.b, .fx (Option Str) v4_s]) (st_if (eb_test (ev_notN ev_var)) (st_raise2 102 "what" "index" ev_var ev_var) (st_nil () (Le.eq (Le.eq (Le.eq (Le.eq Le.nil))))))
        fun v5_s => (st_seq (Δ1 := fun v6_s : Unit => [.bo Str a_names.l, .fx Int v2_x.a, .fx Str v2_x.b, .fx (Option Str) v4_s]) (st_if (eb_test (ev_op ov_inL ev_var (ev_bor (ev_fr (ef_slice ev_bo ep_none (ep_some ev_var)))))) (st_raise2 102 "what" "index" ev_str ev_var) (st_nil () (Le.eq (Le.eq (Le.eq (Le.eq Le.nil))))))
        fun v6_s => (st_nil () (Le.eq (Le.un (Le.un (Le.un Le.nil)))))))))
        fun v7_s => (st_nil () (Le.un (Le.eq (Le.eq (Le.eq Le.nil)))))))
theorem ok_Marks__init (Z : Fa K mg) : FnOk P w K mg base (L2.CX P w) 5 Z.f_Marks__init Z.fd_Marks__init ["self", "names"] (SpI ⟨K, Z.cls⟩ (fun t : (Cn (Bor Str) Nl) => w_Marks__init t.a)) := by
  refine init_ok2 _ Z.F_Marks__init sc_Marks__init rfl (by decide) fun cdv A outer s H E A0 H0 Er x t hr => ?_
  obtain ⟨a_names, ⟨⟩⟩ := t
  exact ⟨_, (pss_cons (ps_expr (pe_call (ok_check_names Z) (hr.mono (by decide)) (by rfl) Z.D_check_names.g Z.D_check_names.kp Z.D_check_names.b .nil (pass_of (E := E) (takes_of rfl rfl rfl rfl)) (pa_cons (pv 1) pa_nil)))
        (pss_cons (ps_fld (pv 0) (pe_callTy call_tuple_of (by rfl) Z.z_tuple (by decide +kernel) (pa_cons (pv 1) pa_nil)) rfl)
        (pss_cons (ps_fld (pv 0) (pe_callB call_len_seq (by rfl) Z.z_len (by decide +kernel) (pa_cons (pv 1) pa_nil)) rfl)
        (pss_cons (ps_fld (pv 0) (pe_op op_shl pe_int (pe_fld (pv 0) rfl)) rfl)
        (pss_cons (ps_fld (pv 0) (pe_op op_sub (pe_op op_shl pe_int (pe_fld (pv 0) rfl)) pe_int) rfl)
        pss_nil))))), _, (st_seq (Δ1 := fun v1_s : Unit => [.ob 2 x [], .bo Str a_names.l]) (st_drop (ev_call (ea_cons ev_bo ea_nil)))
        fun v1_s => (st_seq (Δ1 := fun v2_s : (Tup Str) => [.ob 2 x [⟨"names", (Tup Str), inferInstance, v2_s⟩], .bo Str a_names.l]) (st_fld (i := 0) (C := 2) (x := x) (fs := []) Z.cl_Marks Z.no_Marks_names (ev_ca1 cv_tupL ev_bo) rfl (by first | decide | simp))
        fun v2_s => (st_seq (Δ1 := fun v3_s : Int => [.ob 2 x [⟨"names", (Tup Str), inferInstance, v2_s⟩, ⟨"count", Int, inferInstance, v3_s⟩], .bo Str a_names.l]) (st_fld (i := 0) (C := 2) (x := x) (fs := [⟨"names", (Tup Str), inferInstance, v2_s⟩]) Z.cl_Marks Z.no_Marks_count (ev_ca1 cv_lenL ev_bo) rfl (by first | decide | simp))
        fun v3_s => (st_seq (Δ1 := fun v4_s : Int => [.ob 2 x [⟨"names", (Tup Str), inferInstance, v2_s⟩, ⟨"count", Int, inferInstance, v3_s⟩, ⟨"days", Int, inferInstance, v4_s⟩], .bo Str a_names.l]) (st_fld (i := 0) (C := 2) (x := x) (fs := [⟨"names", (Tup Str), inferInstance, v2_s⟩, ⟨"count", Int, inferInstance, v3_s⟩]) Z.cl_Marks Z.no_Marks_days (ev_op ov_shl ev_int (ev_fldS Z.cl_Marks Z.no_Marks_count rfl)) rfl (by first | decide | simp))
        fun v4_s => (st_seq (Δ1 := fun v5_s : Int => [.ob 2 x [⟨"names", (Tup Str), inferInstance, v2_s⟩, ⟨"count", Int, inferInstance, v3_s⟩, ⟨"days", Int, inferInstance, v4_s⟩, ⟨"all_days", Int, inferInstance, v5_s⟩], .bo Str a_names.l]) (st_fld (i := 0) (C := 2) (x := x) (fs := [⟨"names", (Tup Str), inferInstance, v2_s⟩, ⟨"count", Int, inferInstance, v3_s⟩, ⟨"days", Int, inferInstance, v4_s⟩]) Z.cl_Marks Z.no_Marks_all_days (ev_op ov_sub (ev_op ov_shl ev_int (ev_fldS Z.cl_Marks Z.no_Marks_days rfl)) ev_int) rfl (by first | decide | simp))
        fun v5_s => (st_nil ((Marks.mk v2_s v3_s v4_s v5_s : Marks)) (by repeat first | exact Le.nil | apply Le.un | apply Le.eq))))))), rfl⟩
theorem ok_l_marks (Z : Fa K mg) : FnOk P w K mg base (L2.CX P w) 7 Z.f_l_marks Z.fd_l_marks ["_law_days"] (SpF ⟨K, Z.cls⟩ (fun t : (Cn Int Nl) => w_l_marks t.a)) := by
  refine def_ok _ Z.F_l_marks sc_l_marks rfl (by decide) fun cdv A outer s H E A0 Er t hr => ?_
  obtain ⟨a_days, ⟨⟩⟩ := t
  refine ⟨_, (pss_one (ps_ret (pe_make Z.M_Marks (ok_Marks__init Z) (hr.mono (by decide)) (by rfl) Z.g_Marks Z.b_Marks__init .nil (pass_of (E := E) (takes_of rfl rfl rfl rfl)) (pa_cons (pe_slice sl_list (pe_lst (pa_cons pe_str (pa_cons pe_str (pa_cons pe_str (pa_cons pe_str pa_nil))))) po_none (po_some (pe_op op_add (pe_tupIx (u66 hr) (pa_cons pe_int (pa_cons pe_int (pa_cons pe_int (pa_cons pe_int pa_nil)))) (pa_cons (pv 0) pa_nil)) pe_int))) pa_nil)))), ?_⟩
  show BodyOk _ _ [.fx Int a_days] (w_l_marks a_days)
  exact bo_ret (Δ := fun _ : Unit => [.un]) (ΔL := fun e : Empty => e.elim) (st_ret (ev_make (α := Marks) (ea_cons (ev_bor (ev_fr (ef_slice (ev_bor (ev_fr (ef_lst (es_cons ev_str (es_cons ev_str (es_cons ev_str (es_cons ev_str es_nil))))))) ep_none (ep_some (ev_op ov_add (ev_tupIx (es_cons ev_int (es_cons ev_int (es_cons ev_int (es_cons ev_int es_nil)))) ev_var) ev_int))))) ea_nil)))
theorem ok_within (Z : Fa K mg) : FnOk P w K mg base (L2.CX P w) 1 Z.f_within Z.fd_within ["one", "other"] (SpF ⟨K, Z.cls⟩ (fun t : (Cn Int (Cn Int Nl)) => w_within t.a t.r.a)) := by
  refine def_ok _ Z.F_within sc_within rfl (by decide) fun cdv A outer s H E A0 Er t hr => ?_
  obtain ⟨a_one, a_other, ⟨⟩⟩ := t
  refine ⟨_, (pss_one (ps_ret (pe_cmpR op_eq (pe_op op_and (pv 0) (pe_un un_inv (pv 1))) pe_int (nomark _)))), ?_⟩
  show BodyOk _ _ [.fx Int a_one, .fx Int a_other] (w_within a_one a_other)
  exact bo_ret (Δ := fun _ : Unit => [.un, .un]) (ΔL := fun e : Empty => e.elim) (st_ret (ev_op (ov_eq sc_ii) (ev_op ov_and ev_var (ev_un uv_inv ev_var)) ev_int))
theorem ok_has_days (Z : Fa K mg) : FnOk P w K mg base (L2.CX P w) 3 Z.f_has_days Z.fd_has_days ["marks", "saying"] (SpF ⟨K, Z.cls⟩ (fun t : (Cn Marks (Cn Saying Nl)) => w_has_days t.a t.r.a)) := by
  refine def_ok _ Z.F_has_days sc_has_days rfl (by decide) fun cdv A outer s H E A0 Er t hr => ?_
  obtain ⟨a_marks, a_saying, ⟨⟩⟩ := t
  refine ⟨_, (pss_one (ps_ret (pe_call (ok_within Z) (hr.mono (by decide)) (by rfl) Z.D_within.g Z.D_within.kp Z.D_within.b .nil (pass_of (E := E) (takes_of rfl rfl rfl rfl)) (pa_cons (pe_op op_or (pe_fld (pv 1) rfl) (pe_fld (pv 1) rfl)) (pa_cons (pe_fld (pv 0) rfl) pa_nil))))), ?_⟩
  show BodyOk _ _ [.fx Marks a_marks, .fx Saying a_saying] (w_has_days a_marks a_saying)
  exact bo_ret (Δ := fun _ : Unit => [.un, .un]) (ΔL := fun e : Empty => e.elim) (st_ret (ev_call (ea_cons (ev_op ov_or (ev_fld (fun o : Saying => o.«where») Z.cl_Saying Z.no_Saying_where (fun _ => rfl) ev_var) (ev_fld (fun o : Saying => o.«then») Z.cl_Saying Z.no_Saying_then (fun _ => rfl) ev_var)) (ea_cons (ev_fld (fun o : Marks => o.all_days) Z.cl_Marks Z.no_Marks_all_days (fun _ => rfl) ev_var) ea_nil))))
theorem ok_check_book (Z : Fa K mg) : FnOk P w K mg base (L2.CX P w) 5 Z.f_check_book Z.fd_check_book ["marks", "sayings"] (SpF ⟨K, Z.cls⟩ (fun t : (Cn Marks (Cn (Bor Saying) Nl)) => w_check_book t.a t.r.a)) := by
  refine def_ok _ Z.F_check_book sc_check_book rfl (by decide) fun cdv A outer s H E A0 Er t hr => ?_
  obtain ⟨a_marks, a_sayings, ⟨⟩⟩ := t
  refine ⟨_, (pss_cons (ps_if (pt_not (pt_val (pe_callB call_isi (by rfl) Z.z_isinstance (by decide +kernel) (pa_cons (pv 0) (pa_cons (pe_glob (v := .ref (Z.cls 2)) (by rfl) Z.g_Marks rfl) pa_nil))))) (pss_one (ps_raise rfl (takes_of rfl rfl rfl rfl) (pmk_fld2 Z.E_BadBook.oex Z.E_BadBook.iC Z.E_BadBook.tI (ok_BadBook__init Z) (hr.mono (by decide)) Z.E_BadBook.b (by rfl) Z.E_BadBook.g pe_str pe_non))) pss_nil)
        (pss_cons (ps_if (PW.pt (pw_or (pt_not (pt_val (pe_callB call_isiT (by rfl) Z.z_isinstance (by decide +kernel) (pa_cons (pv 1) (pa_cons (pe_tup (pa_cons (pe_bltn (v := .ty "list") (by rfl) Z.z_list (by decide +kernel) rfl) (pa_cons (pe_bltn (v := .ty "tuple") (by rfl) Z.z_tuple (by decide +kernel) rfl) pa_nil))) pa_nil))))) (pw_or1 (pt_cmpR op_gt (pe_callB call_len_seq (by rfl) Z.z_len (by decide +kernel) (pa_cons (pv 1) pa_nil)) (pe_glob (v := .int 12) (by rfl) Z.g_MOST_SAYINGS ⟨_, rfl⟩) (nomark _))))) (pss_one (ps_raise rfl (takes_of rfl rfl rfl rfl) (pmk_fld2 Z.E_BadBook.oex Z.E_BadBook.iC Z.E_BadBook.tI (ok_BadBook__init Z) (hr.mono (by decide)) Z.E_BadBook.b (by rfl) Z.E_BadBook.g pe_str pe_non))) pss_nil)
        (pss_cons (ps_for (passes_of rfl) rfl (pi_enum (by rfl) Z.z_enumerate (pa_cons (pv 1) pa_nil)) (pg_tup rfl (pgs_cons (pg_name (i := 2) sc_check_book.nd rfl (Or.inl rfl)) (pgs_cons (pg_name (i := 3) sc_check_book.nd rfl (Or.inl rfl)) pgs_nil))) (pss_cons (ps_if (pt_not (pt_val (pe_callB call_isi (by rfl) Z.z_isinstance (by decide +kernel) (pa_cons (pv 3) (pa_cons (pe_glob (v := .ref (Z.cls 1)) (by rfl) Z.g_Saying rfl) pa_nil))))) (pss_one (ps_raise rfl (takes_of rfl rfl rfl rfl) (pmk_fld2 Z.E_BadBook.oex Z.E_BadBook.iC Z.E_BadBook.tI (ok_BadBook__init Z) (hr.mono (by decide)) Z.E_BadBook.b (by rfl) Z.E_BadBook.g pe_str (pv 2)))) pss_nil)
        (pss_cons (ps_if (pt_not (pt_val (pe_call (ok_has_days Z) (hr.mono (by decide)) (by rfl) Z.D_has_days.g Z.D_has_days.kp Z.D_has_days.b .nil (pass_of (E := E) (takes_of rfl rfl rfl rfl)) (pa_cons (pv 0) (pa_cons (pv 3) pa_nil))))) (pss_one (ps_raise rfl (takes_of rfl rfl rfl rfl) (pmk_fld2 Z.E_BadBook.oex Z.E_BadBook.iC Z.E_BadBook.tI (ok_BadBook__init Z) (hr.mono (by decide)) Z.E_BadBook.b (by rfl) Z.E_BadBook.g pe_str (pv 2)))) pss_nil)
        pss_nil)))
        pss_nil))), ?_⟩
  show BodyOk _ _ [.fx Marks a_marks, .bo Saying a_sayings.l, .un, .un] (w_check_book a_marks a_sayings)
  exact bo_nx (Δ := fun _ : Unit => [.un, .un, .un, .un]) (ΔL := fun e : Empty => e.elim) (st_seq (Δ1 := fun v1_s : Unit => [.fx Marks a_marks, .bo Saying a_sayings.l, .un, .un]) (st_if (eb_not (eb_val (ev_isi (kd_obj Z.cty_Marks) (fun _ => true) (.own _) (fun _ => (kit_same _ _)) ev_var))) (st_raise2 109 "what" "number" ev_str ev_non) (st_nil () (Le.eq (Le.eq (Le.eq (Le.eq Le.nil))))))
        fun v1_s => (st_seq (Δ1 := fun v2_s : Unit => [.fx Marks a_marks, .bo Saying a_sayings.l, .un, .un]) (st_if (eb_or (eb_not (eb_val (ev_isi2 kd_bor (fun _ => true) (.ty "list") (.ty "tuple") (fun _ => kit2 (b1 := true) (b2 := false) (kit_ty (by decide +kernel)) (kit_ty (by decide +kernel))) ev_bo))) (eb_test (ev_op ov_gt (ev_ca1 cv_lenL ev_bo) ev_int))) (st_raise2 109 "what" "number" ev_str ev_non) (st_nil () (Le.eq (Le.eq (Le.eq (Le.eq Le.nil))))))
        fun v2_s => (st_seq (Δ1 := fun v7_s : Unit => [.fx Marks a_marks, .bo Saying a_sayings.l, .un, .un]) (st_for (Δ := fun v4_s : Unit => [.fx Marks a_marks, .bo Saying a_sayings.l, .un, .un]) () (ei_enum es_bo (eg_2 eg_name eg_name)) (Le.eq (Le.eq (Le.eq (Le.eq Le.nil)))) (fun _ => rfl) fun v3_x v4_s => (st_seq (Δ1 := fun v5_s : Unit => [.fx Marks a_marks, .bo Saying a_sayings.l, .fx Int v3_x.a, .fx Saying v3_x.b]) (st_if (eb_not (eb_val (ev_isi (kd_obj Z.cty_Saying) (fun _ => true) (.own _) (fun _ => (kit_same _ _)) ev_var))) (st_raise2 109 "what" "number" ev_str ev_var) (st_nil () (Le.eq (Le.eq (Le.eq (Le.eq Le.nil))))))
        fun v5_s => (st_seq (Δ1 := fun v6_s : Unit => [.fx Marks a_marks, .bo Saying a_sayings.l, .fx Int v3_x.a, .fx Saying v3_x.b]) (st_if (eb_not (eb_val (ev_call (ea_cons ev_var (ea_cons ev_var ea_nil))))) (st_raise2 109 "what" "number" ev_str ev_var) (st_nil () (Le.eq (Le.eq (Le.eq (Le.eq Le.nil))))))
        fun v6_s => (st_nil () (Le.eq (Le.eq (Le.un (Le.un Le.nil))))))))
        fun v7_s => (st_nil () (Le.un (Le.un (Le.eq (Le.eq Le.nil))))))))
theorem ok_Book__init (Z : Fa K mg) : FnOk P w K mg base (L2.CX P w) 7 Z.f_Book__init Z.fd_Book__init ["self", "marks", "sayings"] (SpI ⟨K, Z.cls⟩ (fun t : (Cn Marks (Cn (Bor Saying) Nl)) => w_Book__init t.a t.r.a)) := by
  refine init_ok2 _ Z.F_Book__init sc_Book__init rfl (by decide) fun cdv A outer s H E A0 H0 Er x t hr => ?_
  obtain ⟨a_marks, a_sayings, ⟨⟩⟩ := t
  exact ⟨_, (pss_cons (ps_expr (pe_call (ok_check_book Z) (hr.mono (by decide)) (by rfl) Z.D_check_book.g Z.D_check_book.kp Z.D_check_book.b .nil (pass_of (E := E) (takes_of rfl rfl rfl rfl)) (pa_cons (pv 1) (pa_cons (pv 2) pa_nil))))
        (pss_cons (ps_fld (pv 0) (pv 1) rfl)
        (pss_cons (ps_fld (pv 0) (pe_callTy call_tuple_of (by rfl) Z.z_tuple (by decide +kernel) (pa_cons (pv 2) pa_nil)) rfl)
        pss_nil))), _, (st_seq (Δ1 := fun v1_s : Unit => [.ob 3 x [], .fx Marks a_marks, .bo Saying a_sayings.l]) (st_drop (ev_call (ea_cons ev_var (ea_cons ev_bo ea_nil))))
        fun v1_s => (st_seq (Δ1 := fun v2_s : Marks => [.ob 3 x [⟨"marks", Marks, inferInstance, v2_s⟩], .fx Marks a_marks, .bo Saying a_sayings.l]) (st_fld (i := 0) (C := 3) (x := x) (fs := []) Z.cl_Book Z.no_Book_marks ev_var rfl (by first | decide | simp))
        fun v2_s => (st_seq (Δ1 := fun v3_s : (Tup Saying) => [.ob 3 x [⟨"marks", Marks, inferInstance, v2_s⟩, ⟨"sayings", (Tup Saying), inferInstance, v3_s⟩], .fx Marks a_marks, .bo Saying a_sayings.l]) (st_fld (i := 0) (C := 3) (x := x) (fs := [⟨"marks", Marks, inferInstance, v2_s⟩]) Z.cl_Book Z.no_Book_sayings (ev_ca1 cv_tupL ev_bo) rfl (by first | decide | simp))
        fun v3_s => (st_nil ((Book.mk v2_s v3_s : Book)) (by repeat first | exact Le.nil | apply Le.un | apply Le.eq))))), rfl⟩
theorem ok_check_fitting (Z : Fa K mg) : FnOk P w K mg base (L2.CX P w) 3 Z.f_check_fitting Z.fd_check_fitting ["days", "sayings"] (SpF ⟨K, Z.cls⟩ (fun t : (Cn Int (Cn (Tup Saying) Nl)) => w_check_fitting t.a t.r.a)) := by
  refine def_ok _ Z.F_check_fitting sc_check_fitting rfl (by decide) fun cdv A outer s H E A0 Er t hr => ?_
  obtain ⟨a_days, a_sayings, ⟨⟩⟩ := t
  refine ⟨_, (pss_cons (ps_for (passes_of rfl) rfl (pi_tup (pv 1)) (pg_name (i := 2) sc_check_fitting.nd rfl (Or.inl rfl)) (pss_cons (ps_if (pt_truth (pe_op op_shr (pe_op op_or (pe_fld (pv 2) rfl) (pe_fld (pv 2) rfl)) (pv 0)) (by intro _; rfl)) (pss_one (ps_raise rfl (takes_of rfl rfl rfl rfl) (pmk_pass Z.E_OtherDays.oex Z.E_OtherDays.iC Z.E_OtherDays.tI (ok_OtherDays__init Z) (hr.mono (by decide)) Z.E_OtherDays.b (by rfl) Z.E_OtherDays.g))) pss_nil)
        pss_nil))
        pss_nil), ?_⟩
  show BodyOk _ _ [.fx Int a_days, .fx (Tup Saying) a_sayings, .un] (w_check_fitting a_days a_sayings)
  exact bo_nx (Δ := fun _ : Unit => [.un, .un, .un]) (ΔL := fun e : Empty => e.elim) (st_seq (Δ1 := fun v4_s : Unit => [.fx Int a_days, .fx (Tup Saying) a_sayings, .un]) (st_for (Δ := fun v2_s : Unit => [.fx Int a_days, .fx (Tup Saying) a_sayings, .un]) () (ei_tup (es_tup ev_var) eg_name) (Le.eq (Le.eq (Le.eq Le.nil))) (fun _ => rfl) fun v1_x v2_s => (st_seq (Δ1 := fun v3_s : Unit => [.fx Int a_days, .fx (Tup Saying) a_sayings, .fx Saying v1_x]) (st_if (eb_truth (ev_op ov_shr (ev_op ov_or (ev_fld (fun o : Saying => o.«where») Z.cl_Saying Z.no_Saying_where (fun _ => rfl) ev_var) (ev_fld (fun o : Saying => o.«then») Z.cl_Saying Z.no_Saying_then (fun _ => rfl) ev_var)) ev_var)) (st_raise0 112) (st_nil () (Le.eq (Le.eq (Le.eq Le.nil)))))
        fun v3_s => (st_nil () (Le.eq (Le.eq (Le.un Le.nil))))))
        fun v4_s => (st_nil () (Le.un (Le.un (Le.eq Le.nil)))))
theorem ok_check_days (Z : Fa K mg) : FnOk P w K mg base (L2.CX P w) 5 Z.f_check_days Z.fd_check_days ["marks", "sayings"] (SpF ⟨K, Z.cls⟩ (fun t : (Cn Marks (Cn (Tup Saying) Nl)) => w_check_days t.a t.r.a)) := by
  refine def_ok _ Z.F_check_days sc_check_days rfl (by decide) fun cdv A outer s H E A0 Er t hr => ?_
  obtain ⟨a_marks, a_sayings, ⟨⟩⟩ := t
  refine ⟨_, (pss_cons (ps_expr (pe_call (ok_check_fitting Z) (hr.mono (by decide)) (by rfl) Z.D_check_fitting.g Z.D_check_fitting.kp Z.D_check_fitting.b .nil (pass_of (E := E) (takes_of rfl rfl rfl rfl)) (pa_cons (pe_fld (pv 0) rfl) (pa_cons (pv 1) pa_nil))))
        pss_nil), ?_⟩
  show BodyOk _ _ [.fx Marks a_marks, .fx (Tup Saying) a_sayings] (w_check_days a_marks a_sayings)
  exact bo_nx (Δ := fun _ : Unit => [.un, .un]) (ΔL := fun e : Empty => e.elim) (st_seq (Δ1 := fun v1_s : Unit => [.fx Marks a_marks, .fx (Tup Saying) a_sayings]) (st_drop (ev_call (ea_cons (ev_fld (fun o : Marks => o.days) Z.cl_Marks Z.no_Marks_days (fun _ => rfl) ev_var) (ea_cons ev_var ea_nil))))
        fun v1_s => (st_nil () (Le.un (Le.un Le.nil))))
theorem ok_set_of (Z : Fa K mg) : FnOk P w K mg base (L2.CX P w) 1 Z.f_set_of Z.fd_set_of ["days"] (SpF ⟨K, Z.cls⟩ (fun t : (Cn (Bor Int) Nl) => w_set_of t.a)) := by
  refine def_ok _ Z.F_set_of sc_set_of rfl (by decide) fun cdv A outer s H E A0 Er t hr => ?_
  obtain ⟨a_days, ⟨⟩⟩ := t
  refine ⟨_, (pss_cons (ps_set (i := 1) sc_set_of.nd rfl (Or.inl rfl) pe_int)
        (pss_cons (ps_for (passes_of rfl) rfl (pi_list (pv 0)) (pg_name (i := 2) sc_set_of.nd rfl (Or.inl rfl)) (pss_cons (ps_set (i := 1) sc_set_of.nd rfl (Or.inl rfl) (pe_op op_or (pv 1) (pe_op op_shl pe_int (pv 2))))
        pss_nil))
        (pss_one (ps_ret (pv 1))))), ?_⟩
  show BodyOk _ _ [.bo Int a_days.l, .un, .un] (w_set_of a_days)
  exact bo_ret (Δ := fun _ : Unit => [.un, .un, .un]) (ΔL := fun e : Empty => e.elim) (st_seq (Δ1 := fun v1_s : Int => [.bo Int a_days.l, .fx Int v1_s, .un]) (st_set (i := 1) ev_int)
        fun v1_s => (st_seq (Δ1 := fun v5_s : Int => [.bo Int a_days.l, .fx Int v5_s, .un]) (st_for (Δ := fun v3_s : Int => [.bo Int a_days.l, .fx Int v3_s, .un]) (v1_s) (ei_list es_bo eg_name) (Le.eq (Le.eq (Le.eq Le.nil))) (fun _ => rfl) fun v2_x v3_s => (st_seq (Δ1 := fun v4_s : Int => [.bo Int a_days.l, .fx Int v4_s, .fx Int v2_x]) (st_set (i := 1) (ev_op ov_or ev_var (ev_op ov_shl ev_int ev_var)))
        fun v4_s => (st_nil (v4_s) (Le.eq (Le.eq (Le.un Le.nil))))))
        fun v5_s => (st_ret ev_var)))
theorem ok_stay (Z : Fa K mg) : FnOk P w K mg base (L2.CX P w) 3 Z.f_stay Z.fd_stay ["sayings", "room", "placed", "reasons", "heights"] (SpM ⟨K, Z.cls⟩ (fun (t : (Cn (Tup Saying) (Cn Int (Cn Int Nl)))) (u : (Cn (List (Option Int)) (Cn (List Int) Nl))) => w_stay t.a t.r.a t.r.r.a u.a u.r.a)) := by
  refine def_okM _ Z.F_stay sc_stay rfl (by decide) fun cdv A outer s H E A0 H0 ps t u hp hr => ?_
  obtain ⟨a_sayings, a_room, a_placed, ⟨⟩⟩ := t
  obtain ⟨a_reasons, a_heights, ⟨⟩⟩ := u
  obtain ⟨p_reasons, p_heights, rfl⟩ : ∃ p_reasons p_heights, ps = [p_reasons, p_heights] := by
    match ps, hp with | [p_reasons, p_heights], _ => exact ⟨p_reasons, p_heights, rfl⟩
  letI : Pa (Cn Int (Cn (List (Option Int)) (Cn (List Int) Nl))) := paM [p_reasons, p_heights]
  refine ⟨_, (pss_cons (ps_set (i := 5) sc_stay.nd rfl (Or.inl rfl) (pv 1))
        (pss_cons (ps_set (i := 6) sc_stay.nd rfl (Or.inl rfl) pe_int)
        (pss_cons (ps_set (i := 7) sc_stay.nd rfl (Or.inl rfl) pe_bl)
        (pss_cons (ps_while (passes_of rfl) (pt_val (pv 7)) (pss_cons (ps_set (i := 7) sc_stay.nd rfl (Or.inl rfl) pe_bl)
        (pss_cons (ps_for (passes_of rfl) rfl (pi_enumT (by rfl) Z.z_enumerate (pa_cons (pv 0) pa_nil)) (pg_tup rfl (pgs_cons (pg_name (i := 8) sc_stay.nd rfl (Or.inl rfl)) (pgs_cons (pg_name (i := 9) sc_stay.nd rfl (Or.inl rfl)) pgs_nil))) (pss_cons (ps_set (i := 10) sc_stay.nd rfl (Or.inl rfl) (pe_op op_and (pe_fld (pv 9) rfl) (pv 5)))
        (pss_cons (ps_set (i := 11) sc_stay.nd rfl (Or.inl rfl) (pe_ifExp (pt_cmpR op_eq (pe_fld (pv 9) rfl) pe_int (nomark _)) (pv 2) (pv 5)))
        (pss_cons (ps_if (PW.pt (pw_or (pt_cmpR op_eq (pv 10) pe_int (nomark _)) (pw_or1 (pt_truth (pe_op op_and (pe_fld (pv 9) rfl) (pv 11)) (by intro _; rfl))))) (pss_one ps_continue) pss_nil)
        (pss_cons (ps_aug (i := 6) sc_stay.nd rfl (Or.inl rfl) pe_int ip_add)
        (pss_cons (ps_for (passes_of rfl) rfl (pi_tup (pe_call (ok_days_in Z) (hr.mono (by decide)) (by rfl) Z.D_days_in.g Z.D_days_in.kp Z.D_days_in.b .nil (pass_of (E := E) (takes_of rfl rfl rfl rfl)) (pa_cons (pv 10) pa_nil))) (pg_name (i := 12) sc_stay.nd rfl (Or.inl rfl)) (pss_cons (ps_asg (pv 8) (pg_sub (pv 3) (pv 12) set_list))
        (pss_cons (ps_asg (pv 6) (pg_sub (pv 4) (pv 12) set_list))
        pss_nil)))
        (pss_cons (ps_set (i := 5) sc_stay.nd rfl (Or.inl rfl) (pe_op op_and (pv 5) (pe_un un_inv (pv 10))))
        (pss_cons (ps_set (i := 7) sc_stay.nd rfl (Or.inl rfl) pe_bl)
        pss_nil))))))))
        pss_nil)))
        (pss_one (ps_ret (pv 5))))))), ?_⟩
  show @BodyOk _ (paM [p_reasons, p_heights]) _ _ [.fx (Tup Saying) a_sayings, .fx Int a_room, .fx Int a_placed, .mp (Option Int) p_reasons a_reasons, .mp Int p_heights a_heights, .un, .un, .un, .un, .un, .un, .un, .un] (w_stay a_sayings a_room a_placed a_reasons a_heights)
  exact bo_ret (Δ := fun _ : Unit => [.un, .un, .un, .un, .un, .un, .un, .un, .un, .un, .un, .un, .un]) (ΔL := fun e : Empty => e.elim) (st_seq (Δ1 := fun v1_s : Int => [.fx (Tup Saying) a_sayings, .fx Int a_room, .fx Int a_placed, .mp (Option Int) p_reasons a_reasons, .mp Int p_heights a_heights, .fx Int v1_s, .un, .un, .un, .un, .un, .un, .un]) (st_set (i := 5) ev_var)
        fun v1_s => (st_seq (Δ1 := fun v2_s : Int => [.fx (Tup Saying) a_sayings, .fx Int a_room, .fx Int a_placed, .mp (Option Int) p_reasons a_reasons, .mp Int p_heights a_heights, .fx Int v1_s, .fx Int v2_s, .un, .un, .un, .un, .un, .un]) (st_set (i := 6) ev_int)
        fun v2_s => (st_seq (Δ1 := fun v3_s : Bool => [.fx (Tup Saying) a_sayings, .fx Int a_room, .fx Int a_placed, .mp (Option Int) p_reasons a_reasons, .mp Int p_heights a_heights, .fx Int v1_s, .fx Int v2_s, .fx Bool v3_s, .un, .un, .un, .un, .un]) (st_set (i := 7) ev_bl)
        fun v3_s => (st_seq (Δ1 := fun v20_s : (List (Option Int)) × (List Int) × Int × Int × Bool => [.fx (Tup Saying) a_sayings, .fx Int a_room, .fx Int a_placed, .mp (Option Int) p_reasons v20_s.1, .mp Int p_heights v20_s.2.1, .fx Int v20_s.2.2.1, .fx Int v20_s.2.2.2.1, .fx Bool v20_s.2.2.2.2, .un, .un, .un, .un, .un]) (st_while (Δ := fun v4_s : (List (Option Int)) × (List Int) × Int × Int × Bool => [.fx (Tup Saying) a_sayings, .fx Int a_room, .fx Int a_placed, .mp (Option Int) p_reasons v4_s.1, .mp Int p_heights v4_s.2.1, .fx Int v4_s.2.2.1, .fx Int v4_s.2.2.2.1, .fx Bool v4_s.2.2.2.2, .un, .un, .un, .un, .un]) (a_reasons, a_heights, v1_s, v2_s, v3_s) (Le.eq (Le.eq (Le.eq (Le.eq (Le.eq (Le.eq (Le.eq (Le.eq (Le.eq (Le.eq (Le.eq (Le.eq (Le.eq Le.nil))))))))))))) (fun v4_s => (eb_val ev_var)) fun v4_s => (st_seq (Δ1 := fun v5_s : Bool => [.fx (Tup Saying) a_sayings, .fx Int a_room, .fx Int a_placed, .mp (Option Int) p_reasons v4_s.1, .mp Int p_heights v4_s.2.1, .fx Int v4_s.2.2.1, .fx Int v4_s.2.2.2.1, .fx Bool v5_s, .un, .un, .un, .un, .un]) (st_set (i := 7) ev_bl)
        fun v5_s => (st_seq (Δ1 := fun v19_s : (List (Option Int)) × (List Int) × Int × Int × Bool => [.fx (Tup Saying) a_sayings, .fx Int a_room, .fx Int a_placed, .mp (Option Int) p_reasons v19_s.1, .mp Int p_heights v19_s.2.1, .fx Int v19_s.2.2.1, .fx Int v19_s.2.2.2.1, .fx Bool v19_s.2.2.2.2, .un, .un, .un, .un, .un]) (st_for (Δ := fun v7_s : (List (Option Int)) × (List Int) × Int × Int × Bool => [.fx (Tup Saying) a_sayings, .fx Int a_room, .fx Int a_placed, .mp (Option Int) p_reasons v7_s.1, .mp Int p_heights v7_s.2.1, .fx Int v7_s.2.2.1, .fx Int v7_s.2.2.2.1, .fx Bool v7_s.2.2.2.2, .un, .un, .un, .un, .un]) (v4_s.1, v4_s.2.1, v4_s.2.2.1, v4_s.2.2.2.1, v5_s) (ei_enumT (es_tup ev_var) (eg_2 eg_name eg_name)) (Le.eq (Le.eq (Le.eq (Le.eq (Le.eq (Le.eq (Le.eq (Le.eq (Le.eq (Le.eq (Le.eq (Le.eq (Le.eq Le.nil))))))))))))) (fun _ => rfl) fun v6_x v7_s => (st_seq (Δ1 := fun v8_s : Int => [.fx (Tup Saying) a_sayings, .fx Int a_room, .fx Int a_placed, .mp (Option Int) p_reasons v7_s.1, .mp Int p_heights v7_s.2.1, .fx Int v7_s.2.2.1, .fx Int v7_s.2.2.2.1, .fx Bool v7_s.2.2.2.2, .fx Int v6_x.a, .fx Saying v6_x.b, .fx Int v8_s, .un, .un]) (st_set (i := 10) (ev_op ov_and (ev_fld (fun o : Saying => o.high) Z.cl_Saying Z.no_Saying_high (fun _ => rfl) ev_var) ev_var))
        fun v8_s => (st_seq (Δ1 := fun v9_s : Int => [.fx (Tup Saying) a_sayings, .fx Int a_room, .fx Int a_placed, .mp (Option Int) p_reasons v7_s.1, .mp Int p_heights v7_s.2.1, .fx Int v7_s.2.2.1, .fx Int v7_s.2.2.2.1, .fx Bool v7_s.2.2.2.2, .fx Int v6_x.a, .fx Saying v6_x.b, .fx Int v8_s, .fx Int v9_s, .un]) (st_set (i := 11) (ev_if (eb_test (ev_op (ov_eq sc_ii) (ev_fld (fun o : Saying => o.step) Z.cl_Saying Z.no_Saying_step (fun _ => rfl) ev_var) ev_int)) ev_var ev_var))
        fun v9_s => (st_seq (Δ1 := fun v10_s : Unit => [.fx (Tup Saying) a_sayings, .fx Int a_room, .fx Int a_placed, .mp (Option Int) p_reasons v7_s.1, .mp Int p_heights v7_s.2.1, .fx Int v7_s.2.2.1, .fx Int v7_s.2.2.2.1, .fx Bool v7_s.2.2.2.2, .fx Int v6_x.a, .fx Saying v6_x.b, .fx Int v8_s, .fx Int v9_s, .un]) (st_if (eb_or (eb_test (ev_op (ov_eq sc_ii) ev_var ev_int)) (eb_truth (ev_op ov_and (ev_fld (fun o : Saying => o.low) Z.cl_Saying Z.no_Saying_low (fun _ => rfl) ev_var) ev_var))) (st_ct (v7_s.1, v7_s.2.1, v7_s.2.2.1, v7_s.2.2.2.1, v7_s.2.2.2.2) (Le.eq (Le.eq (Le.eq (Le.eq (Le.eq (Le.eq (Le.eq (Le.eq (Le.un (Le.un (Le.un (Le.un (Le.eq Le.nil)))))))))))))) (st_nil () (Le.eq (Le.eq (Le.eq (Le.eq (Le.eq (Le.eq (Le.eq (Le.eq (Le.eq (Le.eq (Le.eq (Le.eq (Le.eq Le.nil)))))))))))))))
        fun v10_s => (st_seq (Δ1 := fun v11_s : Int => [.fx (Tup Saying) a_sayings, .fx Int a_room, .fx Int a_placed, .mp (Option Int) p_reasons v7_s.1, .mp Int p_heights v7_s.2.1, .fx Int v7_s.2.2.1, .fx Int v11_s, .fx Bool v7_s.2.2.2.2, .fx Int v6_x.a, .fx Saying v6_x.b, .fx Int v8_s, .fx Int v9_s, .un]) (st_aug (i := 6) (op := fun i j => i + j) ev_int)
        fun v11_s => (st_seq (Δ1 := fun v16_s : (List (Option Int)) × (List Int) => [.fx (Tup Saying) a_sayings, .fx Int a_room, .fx Int a_placed, .mp (Option Int) p_reasons v16_s.1, .mp Int p_heights v16_s.2, .fx Int v7_s.2.2.1, .fx Int v11_s, .fx Bool v7_s.2.2.2.2, .fx Int v6_x.a, .fx Saying v6_x.b, .fx Int v8_s, .fx Int v9_s, .un]) (st_for (Δ := fun v13_s : (List (Option Int)) × (List Int) => [.fx (Tup Saying) a_sayings, .fx Int a_room, .fx Int a_placed, .mp (Option Int) p_reasons v13_s.1, .mp Int p_heights v13_s.2, .fx Int v7_s.2.2.1, .fx Int v11_s, .fx Bool v7_s.2.2.2.2, .fx Int v6_x.a, .fx Saying v6_x.b, .fx Int v8_s, .fx Int v9_s, .un]) (v7_s.1, v7_s.2.1) (ei_tup (es_tup (ev_call (ea_cons ev_var ea_nil))) eg_name) (Le.eq (Le.eq (Le.eq (Le.eq (Le.eq (Le.eq (Le.eq (Le.eq (Le.eq (Le.eq (Le.eq (Le.eq (Le.eq Le.nil))))))))))))) (fun _ => rfl) fun v12_x v13_s => (st_seq (Δ1 := fun v14_s : (List (Option Int)) => [.fx (Tup Saying) a_sayings, .fx Int a_room, .fx Int a_placed, .mp (Option Int) p_reasons v14_s, .mp Int p_heights v13_s.2, .fx Int v7_s.2.2.1, .fx Int v11_s, .fx Bool v7_s.2.2.2.2, .fx Int v6_x.a, .fx Saying v6_x.b, .fx Int v8_s, .fx Int v9_s, .fx Int v12_x]) (st_setitemP (i := 3) (ev_some ev_var) ev_var)
        fun v14_s => (st_seq (Δ1 := fun v15_s : (List Int) => [.fx (Tup Saying) a_sayings, .fx Int a_room, .fx Int a_placed, .mp (Option Int) p_reasons v14_s, .mp Int p_heights v15_s, .fx Int v7_s.2.2.1, .fx Int v11_s, .fx Bool v7_s.2.2.2.2, .fx Int v6_x.a, .fx Saying v6_x.b, .fx Int v8_s, .fx Int v9_s, .fx Int v12_x]) (st_setitemP (i := 4) ev_var ev_var)
        fun v15_s => (st_nil (v14_s, v15_s) (Le.eq (Le.eq (Le.eq (Le.eq (Le.eq (Le.eq (Le.eq (Le.eq (Le.eq (Le.eq (Le.eq (Le.eq (Le.un Le.nil)))))))))))))))))
        fun v16_s => (st_seq (Δ1 := fun v17_s : Int => [.fx (Tup Saying) a_sayings, .fx Int a_room, .fx Int a_placed, .mp (Option Int) p_reasons v16_s.1, .mp Int p_heights v16_s.2, .fx Int v17_s, .fx Int v11_s, .fx Bool v7_s.2.2.2.2, .fx Int v6_x.a, .fx Saying v6_x.b, .fx Int v8_s, .fx Int v9_s, .un]) (st_set (i := 5) (ev_op ov_and ev_var (ev_un uv_inv ev_var)))
        fun v17_s => (st_seq (Δ1 := fun v18_s : Bool => [.fx (Tup Saying) a_sayings, .fx Int a_room, .fx Int a_placed, .mp (Option Int) p_reasons v16_s.1, .mp Int p_heights v16_s.2, .fx Int v17_s, .fx Int v11_s, .fx Bool v18_s, .fx Int v6_x.a, .fx Saying v6_x.b, .fx Int v8_s, .fx Int v9_s, .un]) (st_set (i := 7) ev_bl)
        fun v18_s => (st_nil (v16_s.1, v16_s.2, v17_s, v11_s, v18_s) (Le.eq (Le.eq (Le.eq (Le.eq (Le.eq (Le.eq (Le.eq (Le.eq (Le.un (Le.un (Le.un (Le.un (Le.eq Le.nil))))))))))))))))))))))
        fun v19_s => (st_nil (v19_s.1, v19_s.2.1, v19_s.2.2.1, v19_s.2.2.2.1, v19_s.2.2.2.2) (Le.eq (Le.eq (Le.eq (Le.eq (Le.eq (Le.eq (Le.eq (Le.eq (Le.eq (Le.eq (Le.eq (Le.eq (Le.eq Le.nil)))))))))))))))))
        fun v20_s => (st_retMp ev_var (rp_cons (i := 3) rfl (rp_cons (i := 4) rfl rp_nil)))))))
theorem ok_layer_behind (Z : Fa K mg) : FnOk P w K mg base (L2.CX P w) 1 Z.f_layer_behind Z.fd_layer_behind ["layer", "start", "grown"] (SpF ⟨K, Z.cls⟩ (fun t : (Cn (Option Int) (Cn (Bor Int) (Cn Bool Nl))) => w_layer_behind t.a t.r.a t.r.r.a)) := by
  refine def_ok _ Z.F_layer_behind sc_layer_behind rfl (by decide) fun cdv A outer s H E A0 Er t hr => ?_
  obtain ⟨a_layer, a_start, a_grown, ⟨⟩⟩ := t
  refine ⟨_, (pss_cons (ps_if (pt_val (pv 2)) (pss_one (ps_ret (pe_op op_add (pv 0) pe_int))) pss_nil)
        (pss_one (ps_ret (pe_callBK (cr_minD rfl hr.units) (by rfl) Z.z_min (by decide +kernel) (pa_cons (pe_lc (own := [("least", 3)]) (g := gName 3) rfl sc_layer_behind.nd (pi_list (pv 1)) (blkOk_by (N := N_layer_behind) (sc := defScope s_layer_behind) (by decide +kernel)) (fun _ _ _ _ _ => (pg_name (i := 3) sc_layer_behind.nd rfl (Or.inl rfl))) (fun _ _ _ _ _ => (pts_one (pt_cmpR op_gt (pv 3) (pv 0) (nomark _)))) (fun _ _ _ _ _ => (pv 3))) pa_nil) (pk_cons pe_non pk_nil))))), ?_⟩
  show BodyOk _ _ [.fx (Option Int) a_layer, .bo Int a_start.l, .fx Bool a_grown, .un] (w_layer_behind a_layer a_start a_grown)
  exact bo_ret (Δ := fun _ : Unit => [.un, .un, .un, .un]) (ΔL := fun e : Empty => e.elim) (st_seq (Δ1 := fun v1_s : Unit => [.fx (Option Int) a_layer, .bo Int a_start.l, .fx Bool a_grown, .un]) (st_if (eb_val ev_var) (st_ret (ev_some (ev_op ov_add (ev_the ev_var) ev_int))) (st_nil () (Le.eq (Le.eq (Le.eq (Le.eq Le.nil))))))
        fun v1_s => (st_ret (ev_minD (ea_cons (ev_bor (ev_fr (ef_comp (ei_list es_bo eg_name) (fun v2_x => (eb_test (ev_op ov_gt ev_var (ev_the ev_var)))) (fun v2_x => ev_var)))) ea_nil) (ea_cons ev_non ea_nil))))
theorem ok_climb (Z : Fa K mg) : FnOk P w K mg base (L2.CX P w) 5 Z.f_climb Z.fd_climb ["sayings", "start"] (SpF ⟨K, Z.cls⟩ (fun t : (Cn (Tup Saying) (Cn (Bor Int) Nl)) => w_climb t.a t.r.a)) := by
  refine def_ok _ Z.F_climb sc_climb rfl (by decide) fun cdv A outer s H E A0 Er t hr => ?_
  obtain ⟨a_sayings, a_start, ⟨⟩⟩ := t
  refine ⟨_, (pss_cons (ps_set (i := 2) sc_climb.nd rfl (Or.inl rfl) (pe_op op_rep (pe_lst (pa_cons pe_non pa_nil)) (pe_callB call_len_seq (by rfl) Z.z_len (by decide +kernel) (pa_cons (pv 1) pa_nil))))
        (pss_cons (ps_set (i := 3) sc_climb.nd rfl (Or.inl rfl) (pe_op op_rep (pe_lst (pa_cons pe_non pa_nil)) (pe_callB call_len_seq (by rfl) Z.z_len (by decide +kernel) (pa_cons (pv 1) pa_nil))))
        (pss_cons (ps_set (i := 4) sc_climb.nd rfl (Or.inl rfl) (pe_op op_rep (pe_lst (pa_cons pe_int pa_nil)) (pe_callB call_len_seq (by rfl) Z.z_len (by decide +kernel) (pa_cons (pv 1) pa_nil))))
        (pss_cons (ps_set (i := 5) sc_climb.nd rfl (Or.inl rfl) pe_int)
        (pss_cons (ps_set (i := 6) sc_climb.nd rfl (Or.inr rfl) (pe_callB (cr_min rfl) (by rfl) Z.z_min (by decide +kernel) (pa_cons (pv 1) pa_nil)))
        (pss_cons (ps_while (passes_of rfl) (pt_cmpR op_notN (pv 6) pe_non (nomark _)) (pss_cons (ps_set (i := 8) sc_climb.nd rfl (Or.inl rfl) (pe_call (ok_set_of Z) (hr.mono (by decide)) (by rfl) Z.D_set_of.g Z.D_set_of.kp Z.D_set_of.b .nil (pass_of (E := E) (takes_of rfl rfl rfl rfl)) (pa_cons (pe_lc (own := [("day", 7), ("least", 10)]) (g := gTup K 2 (gCons (gName 7) (gCons (gName 10) gNil))) rfl sc_climb.nd (pi_enum (by rfl) Z.z_enumerate (pa_cons (pv 1) pa_nil)) (blkOk_by (N := N_climb) (sc := defScope s_climb) (by decide +kernel)) (fun _ _ _ _ _ => (pg_tup rfl (pgs_cons (pg_name (i := 7) sc_climb.nd rfl (Or.inl rfl)) (pgs_cons (pg_name (i := 10) sc_climb.nd rfl (Or.inl rfl)) pgs_nil)))) (fun _ _ _ _ _ => (pts_one (pt_cmpR op_le (pv 10) (pv 6) (nomark _)))) (fun _ _ _ _ _ => (pv 7))) pa_nil)))
        (pss_cons (ps_set (i := 9) sc_climb.nd rfl (Or.inl rfl) (pe_call (ok_stay Z) (hr.mono (by decide)) (by rfl) Z.D_stay.g Z.D_stay.kp Z.D_stay.b .nil (pass_of (E := E) (takes_of rfl rfl rfl rfl)) (pa_cons (pv 0) (pa_cons (pv 8) (pa_cons (pv 5) (pa_cons (pv 3) (pa_cons (pv 4) pa_nil)))))))
        (pss_cons (ps_for (passes_of rfl) rfl (pi_tup (pe_call (ok_days_in Z) (hr.mono (by decide)) (by rfl) Z.D_days_in.g Z.D_days_in.kp Z.D_days_in.b .nil (pass_of (E := E) (takes_of rfl rfl rfl rfl)) (pa_cons (pe_op op_and (pv 9) (pe_un un_inv (pv 5))) pa_nil))) (pg_name (i := 7) sc_climb.nd rfl (Or.inl rfl)) (pss_cons (ps_asg (pv 6) (pg_sub (pv 2) (pv 7) set_list))
        pss_nil))
        (pss_cons (ps_set (i := 6) sc_climb.nd rfl (Or.inr rfl) (pe_call (ok_layer_behind Z) (hr.mono (by decide)) (by rfl) Z.D_layer_behind.g Z.D_layer_behind.kp Z.D_layer_behind.b .nil (pass_of (E := E) (takes_of rfl rfl rfl rfl)) (pa_cons (pv 6) (pa_cons (pv 1) (pa_cons (pe_cmpR op_ne (pv 9) (pv 5) (nomark _)) pa_nil)))))
        (pss_cons (ps_set (i := 5) sc_climb.nd rfl (Or.inl rfl) (pv 9))
        pss_nil))))))
        (pss_one (ps_ret (pe_tup (pa_cons (pe_callTy call_tuple_of (by rfl) Z.z_tuple (by decide +kernel) (pa_cons (pv 2) pa_nil)) (pa_cons (pe_callTy call_tuple_of (by rfl) Z.z_tuple (by decide +kernel) (pa_cons (pv 3) pa_nil)) (pa_cons (pe_callTy call_tuple_of (by rfl) Z.z_tuple (by decide +kernel) (pa_cons (pv 4) pa_nil)) pa_nil)))))))))))), ?_⟩
  show BodyOk _ _ [.fx (Tup Saying) a_sayings, .bo Int a_start.l, .un, .un, .un, .un, .un, .un, .un, .un, .un] (w_climb a_sayings a_start)
  exact bo_ret (Δ := fun _ : Unit => [.un, .un, .un, .un, .un, .un, .un, .un, .un, .un, .un]) (ΔL := fun e : Empty => e.elim) (st_seq (Δ1 := fun v1_s : (List (Option Int)) => [.fx (Tup Saying) a_sayings, .bo Int a_start.l, .mu (Option Int) v1_s, .un, .un, .un, .un, .un, .un, .un, .un]) (st_setM (i := 2) (ef_rep (ev_bor (ev_fr (ef_lst (es_cons (ev_none ev_non) es_nil)))) (ev_ca1 cv_lenL ev_bo)))
        fun v1_s => (st_seq (Δ1 := fun v2_s : (List (Option Int)) => [.fx (Tup Saying) a_sayings, .bo Int a_start.l, .mu (Option Int) v1_s, .mu (Option Int) v2_s, .un, .un, .un, .un, .un, .un, .un]) (st_setM (i := 3) (ef_rep (ev_bor (ev_fr (ef_lst (es_cons (ev_none ev_non) es_nil)))) (ev_ca1 cv_lenL ev_bo)))
        fun v2_s => (st_seq (Δ1 := fun v3_s : (List Int) => [.fx (Tup Saying) a_sayings, .bo Int a_start.l, .mu (Option Int) v1_s, .mu (Option Int) v2_s, .mu Int v3_s, .un, .un, .un, .un, .un, .un]) (st_setM (i := 4) (ef_rep (ev_bor (ev_fr (ef_lst (es_cons ev_int es_nil)))) (ev_ca1 cv_lenL ev_bo)))
        fun v3_s => (st_seq (Δ1 := fun v4_s : Int => [.fx (Tup Saying) a_sayings, .bo Int a_start.l, .mu (Option Int) v1_s, .mu (Option Int) v2_s, .mu Int v3_s, .fx Int v4_s, .un, .un, .un, .un, .un]) (st_set (i := 5) ev_int)
        fun v4_s => (st_seq (Δ1 := fun v5_s : (Option Int) => [.fx (Tup Saying) a_sayings, .bo Int a_start.l, .mu (Option Int) v1_s, .mu (Option Int) v2_s, .mu Int v3_s, .fx Int v4_s, .fx (Option Int) v5_s, .un, .un, .un, .un]) (st_set (i := 6) (ev_some (ev_ca1 cv_min ev_bo)))
        fun v5_s => (st_seq (Δ1 := fun v17_s : (List (Option Int)) × (List (Option Int)) × (List Int) × Int × (Option Int) => [.fx (Tup Saying) a_sayings, .bo Int a_start.l, .mu (Option Int) v17_s.1, .mu (Option Int) v17_s.2.1, .mu Int v17_s.2.2.1, .fx Int v17_s.2.2.2.1, .fx (Option Int) v17_s.2.2.2.2, .un, .un, .un, .un]) (st_while (Δ := fun v6_s : (List (Option Int)) × (List (Option Int)) × (List Int) × Int × (Option Int) => [.fx (Tup Saying) a_sayings, .bo Int a_start.l, .mu (Option Int) v6_s.1, .mu (Option Int) v6_s.2.1, .mu Int v6_s.2.2.1, .fx Int v6_s.2.2.2.1, .fx (Option Int) v6_s.2.2.2.2, .un, .un, .un, .un]) (v1_s, v2_s, v3_s, v4_s, v5_s) (Le.eq (Le.eq (Le.eq (Le.eq (Le.eq (Le.eq (Le.eq (Le.eq (Le.eq (Le.eq (Le.eq Le.nil))))))))))) (fun v6_s => (eb_test (ev_notN ev_var))) fun v6_s => (st_seq (Δ1 := fun v9_s : Int => [.fx (Tup Saying) a_sayings, .bo Int a_start.l, .mu (Option Int) v6_s.1, .mu (Option Int) v6_s.2.1, .mu Int v6_s.2.2.1, .fx Int v6_s.2.2.2.1, .fx (Option Int) v6_s.2.2.2.2, .un, .fx Int v9_s, .un, .un]) (st_set (i := 8) (ev_call (ea_cons (ev_bor (ev_fr (ef_comp (ei_enum es_bo (eg_2 eg_name eg_name)) (fun v8_x => (eb_test (ev_op ov_le ev_var (ev_the ev_var)))) (fun v8_x => ev_var)))) ea_nil)))
        fun v9_s => (st_seq (Δ1 := fun v10_s : (Cn Int (Cn (List (Option Int)) (Cn (List Int) Nl))) => [.fx (Tup Saying) a_sayings, .bo Int a_start.l, .mu (Option Int) v6_s.1, .mu (Option Int) v10_s.r.a, .mu Int v10_s.r.r.a, .fx Int v6_s.2.2.2.1, .fx (Option Int) v6_s.2.2.2.2, .un, .fx Int v9_s, .fx Int v10_s.a, .un]) (st_callM (β := Int) (μ := (Cn (List (Option Int)) (Cn (List Int) Nl))) (i := 9) (js := [3, 4]) (u := ⟨v6_s.2.1, ⟨v6_s.2.2.1, ⟨⟩⟩⟩) (eam_c ev_var (eam_c ev_var (eam_c ev_var (eam_v (eam_v eam_0))))) (cts_cons rfl (cts_cons rfl cts_nil)) (by decide))
        fun v10_s => (st_seq (Δ1 := fun v14_s : (List (Option Int)) => [.fx (Tup Saying) a_sayings, .bo Int a_start.l, .mu (Option Int) v14_s, .mu (Option Int) v10_s.r.a, .mu Int v10_s.r.r.a, .fx Int v6_s.2.2.2.1, .fx (Option Int) v6_s.2.2.2.2, .un, .fx Int v9_s, .fx Int v10_s.a, .un]) (st_for (Δ := fun v12_s : (List (Option Int)) => [.fx (Tup Saying) a_sayings, .bo Int a_start.l, .mu (Option Int) v12_s, .mu (Option Int) v10_s.r.a, .mu Int v10_s.r.r.a, .fx Int v6_s.2.2.2.1, .fx (Option Int) v6_s.2.2.2.2, .un, .fx Int v9_s, .fx Int v10_s.a, .un]) (v6_s.1) (ei_tup (es_tup (ev_call (ea_cons (ev_op ov_and ev_var (ev_un uv_inv ev_var)) ea_nil))) eg_name) (Le.eq (Le.eq (Le.eq (Le.eq (Le.eq (Le.eq (Le.eq (Le.eq (Le.eq (Le.eq (Le.eq Le.nil))))))))))) (fun _ => rfl) fun v11_x v12_s => (st_seq (Δ1 := fun v13_s : (List (Option Int)) => [.fx (Tup Saying) a_sayings, .bo Int a_start.l, .mu (Option Int) v13_s, .mu (Option Int) v10_s.r.a, .mu Int v10_s.r.r.a, .fx Int v6_s.2.2.2.1, .fx (Option Int) v6_s.2.2.2.2, .fx Int v11_x, .fx Int v9_s, .fx Int v10_s.a, .un]) (st_setitem (i := 2) ev_var ev_var)
        fun v13_s => (st_nil (v13_s) (Le.eq (Le.eq (Le.eq (Le.eq (Le.eq (Le.eq (Le.eq (Le.un (Le.eq (Le.eq (Le.eq Le.nil))))))))))))))
        fun v14_s => (st_seq (Δ1 := fun v15_s : (Option Int) => [.fx (Tup Saying) a_sayings, .bo Int a_start.l, .mu (Option Int) v14_s, .mu (Option Int) v10_s.r.a, .mu Int v10_s.r.r.a, .fx Int v6_s.2.2.2.1, .fx (Option Int) v15_s, .un, .fx Int v9_s, .fx Int v10_s.a, .un]) (st_set (i := 6) (ev_call (ea_cons ev_var (ea_cons ev_bo (ea_cons (ev_op (ov_ne sc_ii) ev_var ev_var) ea_nil)))))
        fun v15_s => (st_seq (Δ1 := fun v16_s : Int => [.fx (Tup Saying) a_sayings, .bo Int a_start.l, .mu (Option Int) v14_s, .mu (Option Int) v10_s.r.a, .mu Int v10_s.r.r.a, .fx Int v16_s, .fx (Option Int) v15_s, .un, .fx Int v9_s, .fx Int v10_s.a, .un]) (st_set (i := 5) ev_var)
        fun v16_s => (st_nil (v14_s, v10_s.r.a, v10_s.r.r.a, v16_s, v15_s) (Le.eq (Le.eq (Le.eq (Le.eq (Le.eq (Le.eq (Le.eq (Le.eq (Le.un (Le.un (Le.eq Le.nil))))))))))))))))))
        fun v17_s => (st_keep 2 (δ := [.fx (Tup Saying) a_sayings, .bo Int a_start.l, .mu (Option Int) v17_s.1, .mu (Option Int) v17_s.2.1, .mu Int v17_s.2.2.1, .fx Int v17_s.2.2.2.1, .fx (Option Int) v17_s.2.2.2.2, .un, .un, .un, .un]) (st_keep 3 (δ := [.fx (Tup Saying) a_sayings, .bo Int a_start.l, .fx (List (Option Int)) v17_s.1, .mu (Option Int) v17_s.2.1, .mu Int v17_s.2.2.1, .fx Int v17_s.2.2.2.1, .fx (Option Int) v17_s.2.2.2.2, .un, .un, .un, .un]) (st_keep 4 (δ := [.fx (Tup Saying) a_sayings, .bo Int a_start.l, .fx (List (Option Int)) v17_s.1, .fx (List (Option Int)) v17_s.2.1, .mu Int v17_s.2.2.1, .fx Int v17_s.2.2.2.1, .fx (Option Int) v17_s.2.2.2.2, .un, .un, .un, .un]) (st_ret (ev_t3 (ev_ca1 cv_tupL (ev_bor ev_var)) (ev_ca1 cv_tupL (ev_bor ev_var)) (ev_ca1 cv_tupL (ev_bor ev_var)))))))))))))
theorem ok_check_layers_Ti (Z : Fa K mg) : FnOk P w K mg base (L2.CX P w) 5 Z.f_check_layers Z.fd_check_layers ["layers"] (SpF ⟨K, Z.cls⟩ (fun t : (Cn (Tup Int) Nl) => w_check_layers_Ti t.a)) := by
  refine def_ok _ Z.F_check_layers sc_check_layers rfl (by decide) fun cdv A outer s H E A0 Er t hr => ?_
  obtain ⟨a_layers, ⟨⟩⟩ := t
  refine ⟨_, (pss_cons (ps_if (PW.pt (pw_or (pt_not (pt_val (pe_callB call_isiT (by rfl) Z.z_isinstance (by decide +kernel) (pa_cons (pv 0) (pa_cons (pe_tup (pa_cons (pe_bltn (v := .ty "list") (by rfl) Z.z_list (by decide +kernel) rfl) (pa_cons (pe_bltn (v := .ty "tuple") (by rfl) Z.z_tuple (by decide +kernel) rfl) pa_nil))) pa_nil))))) (pw_or1 (pt_cmpR op_notIn_seq (pe_callB call_len_seq (by rfl) Z.z_len (by decide +kernel) (pa_cons (pv 0) pa_nil)) (pe_glob (v := .ref Z.a_DAY_COUNTS) (by rfl) Z.g_DAY_COUNTS rfl) (by rfl))))) (pss_one (ps_raise rfl (takes_of rfl rfl rfl rfl) (pmk_fld Z.E_BadOrder.oex Z.E_BadOrder.iC Z.E_BadOrder.tI ((ok_BadOrder__init Z)) (hr.mono (by decide)) Z.E_BadOrder.b (by rfl) Z.E_BadOrder.g pe_str))) pss_nil)
        (pss_cons (ps_for (passes_of rfl) rfl (pi_tup (pv 0)) (pg_name (i := 1) sc_check_layers.nd rfl (Or.inl rfl)) (pss_cons (ps_if (pt_not (pt_val (pe_call (ok_is_whole Z) (hr.mono (by decide)) (by rfl) Z.D_is_whole.g Z.D_is_whole.kp Z.D_is_whole.b .nil (pass_of (E := E) (takes_of rfl rfl rfl rfl)) (pa_cons (pv 1) (pa_cons pe_int (pa_cons (pe_glob (v := .int 1000000000000000000000000000000) (by rfl) Z.g_HIGHEST_LAYER ⟨_, rfl⟩) pa_nil)))))) (pss_one (ps_raise rfl (takes_of rfl rfl rfl rfl) (pmk_fld Z.E_BadOrder.oex Z.E_BadOrder.iC Z.E_BadOrder.tI ((ok_BadOrder__init Z)) (hr.mono (by decide)) Z.E_BadOrder.b (by rfl) Z.E_BadOrder.g pe_str))) pss_nil)
        pss_nil))
        pss_nil)), ?_⟩
  show BodyOk _ _ [.fx (Tup Int) a_layers, .un] (w_check_layers_Ti a_layers)
  exact bo_nx (Δ := fun _ : Unit => [.un, .un]) (ΔL := fun e : Empty => e.elim) (st_seq (Δ1 := fun v1_s : Unit => [.fx (Tup Int) a_layers, .un]) (st_if (eb_or (eb_not (eb_val (ev_isi2 kd_tup (fun _ => true) (.ty "list") (.ty "tuple") (fun _ => kit2 (b1 := false) (b2 := true) (kit_ty (by decide +kernel)) (kit_ty (by decide +kernel))) ev_var))) (eb_test (ev_op ov_notinT (ev_ca1 cv_lenT ev_var) (ev_ctup (ctupI Z.q_DAY_COUNTS))))) (st_raise1 115 "what" ev_str) (st_nil () (Le.eq (Le.eq Le.nil))))
        fun v1_s => (st_seq (Δ1 := fun v5_s : Unit => [.fx (Tup Int) a_layers, .un]) (st_for (Δ := fun v3_s : Unit => [.fx (Tup Int) a_layers, .un]) () (ei_tup (es_tup ev_var) eg_name) (Le.eq (Le.eq Le.nil)) (fun _ => rfl) fun v2_x v3_s => (st_seq (Δ1 := fun v4_s : Unit => [.fx (Tup Int) a_layers, .fx Int v2_x]) (st_if (eb_not (eb_val (ev_call (ea_cons ev_var (ea_cons ev_int (ea_cons ev_int ea_nil)))))) (st_raise1 115 "what" ev_str) (st_nil () (Le.eq (Le.eq Le.nil))))
        fun v4_s => (st_nil () (Le.eq (Le.un Le.nil)))))
        fun v5_s => (st_nil () (Le.un (Le.eq Le.nil)))))
theorem ok_Order__init_Ti (Z : Fa K mg) : FnOk P w K mg base (L2.CX P w) 7 Z.f_Order__init Z.fd_Order__init ["self", "layers"] (SpI ⟨K, Z.cls⟩ (fun t : (Cn (Tup Int) Nl) => w_Order__init_Ti t.a)) := by
  refine init_ok2 _ Z.F_Order__init sc_Order__init rfl (by decide) fun cdv A outer s H E A0 H0 Er x t hr => ?_
  obtain ⟨a_layers, ⟨⟩⟩ := t
  exact ⟨_, (pss_cons (ps_expr (pe_call (ok_check_layers_Ti Z) (hr.mono (by decide)) (by rfl) Z.D_check_layers.g Z.D_check_layers.kp Z.D_check_layers.b .nil (pass_of (E := E) (takes_of rfl rfl rfl rfl)) (pa_cons (pv 1) pa_nil)))
        (pss_cons (ps_if (pt_cmpR op_notIn_seq pe_int (pv 1) (by rfl)) (pss_one (ps_raise rfl (takes_of rfl rfl rfl rfl) (pmk_fld Z.E_BadOrder.oex Z.E_BadOrder.iC Z.E_BadOrder.tI ((ok_BadOrder__init Z)) (hr.mono (by decide)) Z.E_BadOrder.b (by rfl) Z.E_BadOrder.g pe_str))) pss_nil)
        (pss_cons (ps_fld (pv 0) (pe_callTy call_tuple_of (by rfl) Z.z_tuple (by decide +kernel) (pa_cons (pv 1) pa_nil)) rfl)
        pss_nil))), _, (st_seq (Δ1 := fun v1_s : Unit => [.ob 0 x [], .fx (Tup Int) a_layers]) (st_drop (ev_call (ea_cons ev_var ea_nil)))
        fun v1_s => (st_seq (Δ1 := fun v2_s : Unit => [.ob 0 x [], .fx (Tup Int) a_layers]) (st_if (eb_test (ev_op ov_notinT ev_int ev_var)) (st_raise1 115 "what" ev_str) (st_nil () (Le.eq (Le.eq Le.nil))))
        fun v2_s => (st_seq (Δ1 := fun v3_s : (Tup Int) => [.ob 0 x [⟨"layers", (Tup Int), inferInstance, v3_s⟩], .fx (Tup Int) a_layers]) (st_fld (i := 0) (C := 0) (x := x) (fs := []) Z.cl_Order Z.no_Order_layers (ev_ca1 cv_tupT ev_var) rfl (by first | decide | simp))
        fun v3_s => (st_nil ((Order.mk v3_s : Order)) (by repeat first | exact Le.nil | apply Le.un | apply Le.eq))))), rfl⟩
theorem ok_Lifted__init (Z : Fa K mg) : FnOk P w K mg base (L2.CX P w) 1 Z.f_Lifted__init Z.fd_Lifted__init ["self", "order", "reasons", "heights"] (SpI ⟨K, Z.cls⟩ (fun t : (Cn Order (Cn (Tup (Option Int)) (Cn (Tup Int) Nl))) => w_Lifted__init t.a t.r.a t.r.r.a)) := by
  refine init_ok2 _ Z.F_Lifted__init sc_Lifted__init rfl (by decide) fun cdv A outer s H E A0 H0 Er x t hr => ?_
  obtain ⟨a_order, a_reasons, a_heights, ⟨⟩⟩ := t
  exact ⟨_, (pss_cons (ps_fld (pv 0) (pv 1) rfl)
        (pss_cons (ps_fld (pv 0) (pv 2) rfl)
        (pss_cons (ps_fld (pv 0) (pv 3) rfl)
        pss_nil))), _, (st_seq (Δ1 := fun v1_s : Order => [.ob 4 x [⟨"order", Order, inferInstance, v1_s⟩], .fx Order a_order, .fx (Tup (Option Int)) a_reasons, .fx (Tup Int) a_heights]) (st_fld (i := 0) (C := 4) (x := x) (fs := []) Z.cl_Lifted Z.no_Lifted_order ev_var rfl (by first | decide | simp))
        fun v1_s => (st_seq (Δ1 := fun v2_s : (Tup (Option Int)) => [.ob 4 x [⟨"order", Order, inferInstance, v1_s⟩, ⟨"reasons", (Tup (Option Int)), inferInstance, v2_s⟩], .fx Order a_order, .fx (Tup (Option Int)) a_reasons, .fx (Tup Int) a_heights]) (st_fld (i := 0) (C := 4) (x := x) (fs := [⟨"order", Order, inferInstance, v1_s⟩]) Z.cl_Lifted Z.no_Lifted_reasons ev_var rfl (by first | decide | simp))
        fun v2_s => (st_seq (Δ1 := fun v3_s : (Tup Int) => [.ob 4 x [⟨"order", Order, inferInstance, v1_s⟩, ⟨"reasons", (Tup (Option Int)), inferInstance, v2_s⟩, ⟨"heights", (Tup Int), inferInstance, v3_s⟩], .fx Order a_order, .fx (Tup (Option Int)) a_reasons, .fx (Tup Int) a_heights]) (st_fld (i := 0) (C := 4) (x := x) (fs := [⟨"order", Order, inferInstance, v1_s⟩, ⟨"reasons", (Tup (Option Int)), inferInstance, v2_s⟩]) Z.cl_Lifted Z.no_Lifted_heights ev_var rfl (by first | decide | simp))
        fun v3_s => (st_nil ((Lifted.mk v1_s v2_s v3_s : Lifted)) (by repeat first | exact Le.nil | apply Le.un | apply Le.eq))))), rfl⟩
theorem ok_Stuck__init (Z : Fa K mg) : FnOk P w K mg base (L2.CX P w) 1 Z.f_Stuck__init Z.fd_Stuck__init ["self", "days", "reasons", "heights"] (SpI ⟨K, Z.cls⟩ (fun t : (Cn Int (Cn (Tup (Option Int)) (Cn (Tup Int) Nl))) => w_Stuck__init t.a t.r.a t.r.r.a)) := by
  refine init_ok2 _ Z.F_Stuck__init sc_Stuck__init rfl (by decide) fun cdv A outer s H E A0 H0 Er x t hr => ?_
  obtain ⟨a_days, a_reasons, a_heights, ⟨⟩⟩ := t
  exact ⟨_, (pss_cons (ps_fld (pv 0) (pv 1) rfl)
        (pss_cons (ps_fld (pv 0) (pv 2) rfl)
        (pss_cons (ps_fld (pv 0) (pv 3) rfl)
        pss_nil))), _, (st_seq (Δ1 := fun v1_s : Int => [.ob 5 x [⟨"days", Int, inferInstance, v1_s⟩], .fx Int a_days, .fx (Tup (Option Int)) a_reasons, .fx (Tup Int) a_heights]) (st_fld (i := 0) (C := 5) (x := x) (fs := []) Z.cl_Stuck Z.no_Stuck_days ev_var rfl (by first | decide | simp))
        fun v1_s => (st_seq (Δ1 := fun v2_s : (Tup (Option Int)) => [.ob 5 x [⟨"days", Int, inferInstance, v1_s⟩, ⟨"reasons", (Tup (Option Int)), inferInstance, v2_s⟩], .fx Int a_days, .fx (Tup (Option Int)) a_reasons, .fx (Tup Int) a_heights]) (st_fld (i := 0) (C := 5) (x := x) (fs := [⟨"days", Int, inferInstance, v1_s⟩]) Z.cl_Stuck Z.no_Stuck_reasons ev_var rfl (by first | decide | simp))
        fun v2_s => (st_seq (Δ1 := fun v3_s : (Tup Int) => [.ob 5 x [⟨"days", Int, inferInstance, v1_s⟩, ⟨"reasons", (Tup (Option Int)), inferInstance, v2_s⟩, ⟨"heights", (Tup Int), inferInstance, v3_s⟩], .fx Int a_days, .fx (Tup (Option Int)) a_reasons, .fx (Tup Int) a_heights]) (st_fld (i := 0) (C := 5) (x := x) (fs := [⟨"days", Int, inferInstance, v1_s⟩, ⟨"reasons", (Tup (Option Int)), inferInstance, v2_s⟩]) Z.cl_Stuck Z.no_Stuck_heights ev_var rfl (by first | decide | simp))
        fun v3_s => (st_nil ((Stuck.mk v1_s v2_s v3_s : Stuck)) (by repeat first | exact Le.nil | apply Le.un | apply Le.eq))))), rfl⟩
theorem ok_lift (Z : Fa K mg) : FnR P w K mg base (L2.CX P w) 9 Z.f_lift (SpSt 1 ⟨K, Z.cls⟩ (fun t : (Cn Book (Cn (Tup Saying) Nl)) => w_lift t.a t.r.a)) := by
  refine star_ok (ps := ["book"]) (pv := "further") _ Z.F_lift sc_lift (by decide) (fun _ _ _ _ _ _ us rest hl => match us, rest, hl with | [_], [], _ => rfl | [_], _ :: _, _ => rfl) fun cdv A outer s H E A0 Er t hr => ?_
  obtain ⟨a_book, a_further, ⟨⟩⟩ := t
  refine ⟨_, (pss_cons (ps_expr (pe_call (ok_check_days Z) (hr.mono (by decide)) (by rfl) Z.D_check_days.g Z.D_check_days.kp Z.D_check_days.b .nil (pass_of (E := E) (takes_of rfl rfl rfl rfl)) (pa_cons (pe_fld (pv 0) rfl) (pa_cons (pv 1) pa_nil))))
        (pss_cons (ps_asg (pe_call (ok_climb Z) (hr.mono (by decide)) (by rfl) Z.D_climb.g Z.D_climb.kp Z.D_climb.b .nil (pass_of (E := E) (takes_of rfl rfl rfl rfl)) (pa_cons (pe_op op_catA (pe_fld (pv 0) rfl) (pv 1)) (pa_cons (pe_op op_rep (pe_lst (pa_cons pe_int pa_nil)) (pe_fld (pe_fld (pv 0) rfl) rfl)) pa_nil))) (pg_tup rfl (pgs_cons (pg_name (i := 2) sc_lift.nd rfl (Or.inl rfl)) (pgs_cons (pg_name (i := 3) sc_lift.nd rfl (Or.inl rfl)) (pgs_cons (pg_name (i := 4) sc_lift.nd rfl (Or.inl rfl)) pgs_nil)))))
        (pss_cons (ps_set (i := 5) sc_lift.nd rfl (Or.inl rfl) (pe_call (ok_set_of Z) (hr.mono (by decide)) (by rfl) Z.D_set_of.g Z.D_set_of.kp Z.D_set_of.b .nil (pass_of (E := E) (takes_of rfl rfl rfl rfl)) (pa_cons (pe_lc (own := [("day", 9), ("layer", 7)]) (g := gTup K 2 (gCons (gName 9) (gCons (gName 7) gNil))) rfl sc_lift.nd (pi_enumT (by rfl) Z.z_enumerate (pa_cons (pv 2) pa_nil)) (blkOk_by (N := N_lift) (sc := defScope s_lift) (by decide +kernel)) (fun _ _ _ _ _ => (pg_tup rfl (pgs_cons (pg_name (i := 9) sc_lift.nd rfl (Or.inl rfl)) (pgs_cons (pg_name (i := 7) sc_lift.nd rfl (Or.inl rfl)) pgs_nil)))) (fun _ _ _ _ _ => (pts_one (pt_cmpR op_isN (pv 7) pe_non (nomark _)))) (fun _ _ _ _ _ => (pv 9))) pa_nil)))
        (pss_cons (ps_if (pt_cmpR op_eq (pv 5) pe_int (nomark _)) (pss_one (ps_ret (pe_make Z.M_Lifted (ok_Lifted__init Z) (hr.mono (by decide)) (by rfl) Z.g_Lifted Z.b_Lifted__init .nil (pass_of (E := E) (takes_of rfl rfl rfl rfl)) (pa_cons (pe_make Z.M_Order (ok_Order__init_Ti Z) (hr.mono (by decide)) (by rfl) Z.g_Order Z.b_Order__init .nil (pass_of (E := E) (takes_of rfl rfl rfl rfl)) (pa_cons (pv 2) pa_nil)) (pa_cons (pv 3) (pa_cons (pv 4) pa_nil)))))) pss_nil)
        (pss_cons (ps_setLc (i := 6) (own := [("layer", 7), ("reason", 8)]) (g := gTup K 2 (gCons (gName 7) (gCons (gName 8) gNil))) (tt := tYes) rfl sc_lift.nd rfl rfl (sw_true rfl rfl rfl (by decide +kernel)) (RZ.pi_zipA (by rfl) Z.z_zip (pa_cons (pv 2) (pa_cons (pv 3) pa_nil))) (blkOk_by (N := N_lift) (sc := defScope s_lift) (by decide +kernel)) (fun _ _ _ _ _ => (pg_tup rfl (pgs_cons (pg_name (i := 7) sc_lift.nd rfl (Or.inl rfl)) (pgs_cons (pg_name (i := 8) sc_lift.nd rfl (Or.inl rfl)) pgs_nil)))) (fun _ _ _ _ _ => pts_nil) (fun _ _ _ _ _ => (pe_ifExp (pt_cmpR op_isN (pv 7) pe_non (nomark _)) (pv 8) pe_non)))
        (pss_one (ps_ret (pe_make Z.M_Stuck (ok_Stuck__init Z) (hr.mono (by decide)) (by rfl) Z.g_Stuck Z.b_Stuck__init .nil (pass_of (E := E) (takes_of rfl rfl rfl rfl)) (pa_cons (pv 5) (pa_cons (pe_callTy call_tuple_of (by rfl) Z.z_tuple (by decide +kernel) (pa_cons (pv 6) pa_nil)) (pa_cons (pv 4) pa_nil))))))))))), ?_⟩
  show BodyOk _ _ [.fx Book a_book, .fx (Tup Saying) a_further, .un, .un, .un, .un, .un, .un, .un, .un] (w_lift a_book a_further)
  exact bo_ret (Δ := fun _ : Unit => [.un, .un, .un, .un, .un, .un, .un, .un, .un, .un]) (ΔL := fun e : Empty => e.elim) (st_seq (Δ1 := fun v1_s : Unit => [.fx Book a_book, .fx (Tup Saying) a_further, .un, .un, .un, .un, .un, .un, .un, .un]) (st_drop (ev_call (ea_cons (ev_fld (fun o : Book => o.marks) Z.cl_Book Z.no_Book_marks (fun _ => rfl) ev_var) (ea_cons ev_var ea_nil))))
        fun v1_s => (st_seq (Δ1 := fun v2_s : (T3 (Tup (Option Int)) (Tup (Option Int)) (Tup Int)) => [.fx Book a_book, .fx (Tup Saying) a_further, .fx (Tup (Option Int)) v2_s.a, .fx (Tup (Option Int)) v2_s.b, .fx (Tup Int) v2_s.c, .un, .un, .un, .un, .un]) (st_asg (ev_call (ea_cons (ev_op ov_catT (ev_fld (fun o : Book => o.sayings) Z.cl_Book Z.no_Book_sayings (fun _ => rfl) ev_var) ev_var) (ea_cons (by exact (ev_bor (ev_fr (ef_rep (ev_bor (ev_fr (ef_lst (es_cons ev_int es_nil)))) (ev_fld (fun o : Marks => o.days) Z.cl_Marks Z.no_Marks_days (fun _ => rfl) (ev_fld (fun o : Book => o.marks) Z.cl_Book Z.no_Book_marks (fun _ => rfl) ev_var)))))) ea_nil))) (eg_3 eg_name eg_name eg_name) rfl)
        fun v2_s => (st_seq (Δ1 := fun v5_s : Int => [.fx Book a_book, .fx (Tup Saying) a_further, .fx (Tup (Option Int)) v2_s.a, .fx (Tup (Option Int)) v2_s.b, .fx (Tup Int) v2_s.c, .fx Int v5_s, .un, .un, .un, .un]) (st_set (i := 5) (ev_call (ea_cons (ev_bor (ev_fr (ef_comp (ei_enumT (es_tup ev_var) (eg_2 eg_name eg_name)) (fun v4_x => (eb_test (ev_isN ev_var))) (fun v4_x => ev_var)))) ea_nil)))
        fun v5_s => (st_seq (Δ1 := fun v6_s : Unit => [.fx Book a_book, .fx (Tup Saying) a_further, .fx (Tup (Option Int)) v2_s.a, .fx (Tup (Option Int)) v2_s.b, .fx (Tup Int) v2_s.c, .fx Int v5_s, .un, .un, .un, .un]) (st_if (eb_test (ev_op (ov_eq sc_ii) ev_var ev_int)) (st_ret (ev_s2a (ev_make (α := Lifted) (ea_cons (ev_make (α := Order) (ea_cons (ev_allS ev_var) ea_nil)) (ea_cons ev_var (ea_cons ev_var ea_nil)))))) (st_nil () (Le.eq (Le.eq (Le.eq (Le.eq (Le.eq (Le.eq (Le.eq (Le.eq (Le.eq (Le.eq Le.nil))))))))))))
        fun v6_s => (st_seq (Δ1 := fun v8_s : (List (Option Int)) => [.fx Book a_book, .fx (Tup Saying) a_further, .fx (Tup (Option Int)) v2_s.a, .fx (Tup (Option Int)) v2_s.b, .fx (Tup Int) v2_s.c, .fx Int v5_s, .fx (List (Option Int)) v8_s, .un, .un, .un]) (st_set (i := 6) (ev_fr (ef_comp (ei_zipT (es_tup ev_var) (es_tup ev_var) (eg_2 eg_name eg_name)) (fun _ => eb_yes) (fun v7_x => (ev_if (eb_test (ev_isN ev_var)) ev_var (ev_none ev_non))))))
        fun v8_s => (st_ret (ev_s2b (ev_make (α := Stuck) (ea_cons ev_var (ea_cons (ev_ca1 cv_tupL (ev_bor ev_var)) (ea_cons ev_var ea_nil)))))))))))
theorem ok_law_Scr (Z : Fa K mg) : FnOk P w K mg base (L2.CX P w) 15 Z.f_law Z.fd_law ["_law_script"] (SpF ⟨K, Z.cls⟩ (fun t : (Cn Scr Nl) => w_law_Scr t.a)) := by
  refine def_ok _ Z.F_law sc_law rfl (by decide) fun cdv A outer s H E A0 Er t hr => ?_
  obtain ⟨a_script, ⟨⟩⟩ := t
  refine ⟨_, (pss_cons (ps_set (i := 1) sc_law.nd rfl (Or.inl rfl) (pe_call (ok_l_bag Z) (hr.mono (by decide)) (by rfl) Z.D_l_bag.g Z.D_l_bag.kp Z.D_l_bag.b .nil pass0 (pa_cons (pv 0) (pa_cons pe_int pa_nil))))
        (pss_cons (ps_set (i := 2) sc_law.nd rfl (Or.inr rfl) (pe_call (ok_l_of Z) (hr.mono (by decide)) (by rfl) Z.D_l_of.g Z.D_l_of.kp Z.D_l_of.b .nil (pass_of (E := E) (takes_of rfl rfl rfl rfl)) (pa_cons (pv 1) (pa_cons (pe_lst (pa_cons pe_int (pa_cons pe_int (pa_cons pe_int (pa_cons pe_int (pa_cons pe_int pa_nil)))))) pa_nil))))
        (pss_cons (ps_set (i := 3) sc_law.nd rfl (Or.inr rfl) (pe_lc (own := [("_law_k", 13)]) (g := gName 13) (tt := tYes) rfl sc_law.nd (pi_tup (pe_tup (pa_cons pe_int (pa_cons pe_int (pa_cons pe_int pa_nil))))) (blkOk_by (N := N_law) (sc := defScope s_law) (by decide +kernel)) (fun _ _ _ _ _ => (pg_name (i := 13) sc_law.nd rfl (Or.inl rfl))) (fun _ _ _ _ _ => pts_nil) (fun _ _ _ _ _ => (pe_call (ok_l_layers Z) (hr.mono (by decide)) (by rfl) Z.D_l_layers.g Z.D_l_layers.kp Z.D_l_layers.b .nil passL (pa_cons (pe_call (ok_l_bag Z) (hr.mono (by decide)) (by rfl) Z.D_l_bag.g Z.D_l_bag.kp Z.D_l_bag.b .nil pass0 (pa_cons (pv 0) (pa_cons (pv 13) pa_nil))) (pa_cons (pv 2) pa_nil))))))
        (pss_cons (ps_par3 (i := 4) (j := 5) (l := 6) (by rfl) sc_law.nd rfl rfl rfl (by decide) (by decide) (by decide) rfl rfl rfl (pa_cons (pe_make Z.M_Order (ok_Order__init Z) (hr.mono (by decide)) (by rfl) Z.g_Order Z.b_Order__init .nil (pass_of (E := E) (takes_of rfl rfl rfl rfl)) (pa_cons (pe_ix ix_list (pv 3) pe_int (fun _ _ => rfl)) pa_nil)) (pa_cons (pe_make Z.M_Order (ok_Order__init Z) (hr.mono (by decide)) (by rfl) Z.g_Order Z.b_Order__init .nil (pass_of (E := E) (takes_of rfl rfl rfl rfl)) (pa_cons (pe_ix ix_list (pv 3) pe_int (fun _ _ => rfl)) pa_nil)) (pa_cons (pe_make Z.M_Order (ok_Order__init Z) (hr.mono (by decide)) (by rfl) Z.g_Order Z.b_Order__init .nil (pass_of (E := E) (takes_of rfl rfl rfl rfl)) (pa_cons (pe_ix ix_list (pv 3) pe_int (fun _ _ => rfl)) pa_nil)) pa_nil))) (by rfl))
        (pss_cons (ps_set (i := 7) sc_law.nd rfl (Or.inl rfl) (pe_op (op_ownB Z.sf_Order Z.x_Order__and Z.xf_Order__and ((ok_Order__and Z).raw Z.b_Order__and .nil) (hr.mono (by decide)) (pass_of (E := E) (takes_of rfl rfl rfl rfl))) (pv 4) (pv 5)))
        (pss_cons (ps_if (PW.pt (pw_or (pt_not (pt_cmpR (op_ownD (op := .Eq) (fun _ _ => rfl) Z.x_Order__eq Z.xf_Order__eq ((ok_Order__eq Z).raw Z.b_Order__eq .nil) (hr.mono (by decide)) (pass_of (E := E) (takes_of rfl rfl rfl rfl))) (pv 7) (pe_op (op_ownB Z.sf_Order Z.x_Order__and Z.xf_Order__and ((ok_Order__and Z).raw Z.b_Order__and .nil) (hr.mono (by decide)) (pass_of (E := E) (takes_of rfl rfl rfl rfl))) (pv 5) (pv 4)) (nomark _))) (pw_or (pt_not (pt_cmpR (op_ownD (op := .Eq) (fun _ _ => rfl) Z.x_Order__eq Z.xf_Order__eq ((ok_Order__eq Z).raw Z.b_Order__eq .nil) (hr.mono (by decide)) (pass_of (E := E) (takes_of rfl rfl rfl rfl))) (pe_op (op_ownB Z.sf_Order Z.x_Order__and Z.xf_Order__and ((ok_Order__and Z).raw Z.b_Order__and .nil) (hr.mono (by decide)) (pass_of (E := E) (takes_of rfl rfl rfl rfl))) (pv 4) (pv 4)) (pv 4) (nomark _))) (pw_or1 (pt_not (pt_cmpR (op_ownD (op := .Eq) (fun _ _ => rfl) Z.x_Order__eq Z.xf_Order__eq ((ok_Order__eq Z).raw Z.b_Order__eq .nil) (hr.mono (by decide)) (pass_of (E := E) (takes_of rfl rfl rfl rfl))) (pe_op (op_ownB Z.sf_Order Z.x_Order__and Z.xf_Order__and ((ok_Order__and Z).raw Z.b_Order__and .nil) (hr.mono (by decide)) (pass_of (E := E) (takes_of rfl rfl rfl rfl))) (pe_op (op_ownB Z.sf_Order Z.x_Order__and Z.xf_Order__and ((ok_Order__and Z).raw Z.b_Order__and .nil) (hr.mono (by decide)) (pass_of (E := E) (takes_of rfl rfl rfl rfl))) (pv 4) (pv 5)) (pv 6)) (pe_op (op_ownB Z.sf_Order Z.x_Order__and Z.xf_Order__and ((ok_Order__and Z).raw Z.b_Order__and .nil) (hr.mono (by decide)) (pass_of (E := E) (takes_of rfl rfl rfl rfl))) (pv 4) (pe_op (op_ownB Z.sf_Order Z.x_Order__and Z.xf_Order__and ((ok_Order__and Z).raw Z.b_Order__and .nil) (hr.mono (by decide)) (pass_of (E := E) (takes_of rfl rfl rfl rfl))) (pv 5) (pv 6))) (nomark _))))))) (pss_one (ps_ret pe_bl)) pss_nil)
        (pss_cons (ps_if (PW.pt (pw_or (pt_not (pt_val (pe_call (ok_l_below_both Z) (hr.mono (by decide)) (by rfl) Z.D_l_below_both.g Z.D_l_below_both.kp Z.D_l_below_both.b .nil (pass_of (E := E) (takes_of rfl rfl rfl rfl)) (pa_cons (pv 7) (pa_cons (pv 4) (pa_cons (pv 5) (pa_cons (pv 6) pa_nil))))))) (pw_or1 (pt_not (pt_val (pe_call (ok_l_below_both Z) (hr.mono (by decide)) (by rfl) Z.D_l_below_both.g Z.D_l_below_both.kp Z.D_l_below_both.b .nil (pass_of (E := E) (takes_of rfl rfl rfl rfl)) (pa_cons (pv 7) (pa_cons (pv 4) (pa_cons (pv 5) (pa_cons (pe_op (op_ownB Z.sf_Order Z.x_Order__and Z.xf_Order__and ((ok_Order__and Z).raw Z.b_Order__and .nil) (hr.mono (by decide)) (pass_of (E := E) (takes_of rfl rfl rfl rfl))) (pv 7) (pv 6)) pa_nil)))))))))) (pss_one (ps_ret pe_bl)) pss_nil)
        (pss_cons (ps_set (i := 8) sc_law.nd rfl (Or.inl rfl) (pe_call (ok_l_drawn Z) (hr.mono (by decide)) (by rfl) Z.D_l_drawn.g Z.D_l_drawn.kp Z.D_l_drawn.b .nil (pass_of (E := E) (takes_of rfl rfl rfl rfl)) (pa_cons (pv 1) (pa_cons (pe_ix ix_list (pv 3) pe_int (fun _ _ => rfl)) (pa_cons (pe_ix ix_list (pv 3) pe_int (fun _ _ => rfl)) (pa_cons (pe_call (ok_l_of Z) (hr.mono (by decide)) (by rfl) Z.D_l_of.g Z.D_l_of.kp Z.D_l_of.b .nil (pass_of (E := E) (takes_of rfl rfl rfl rfl)) (pa_cons (pv 1) (pa_cons (pe_lst (pa_cons pe_int (pa_cons pe_int (pa_cons pe_int pa_nil)))) pa_nil))) pa_nil))))))
        (pss_cons (ps_setLc (i := 9) (own := [("_law_saying", 14)]) (g := gName 14) rfl sc_law.nd rfl rfl (sw_true rfl rfl rfl (by decide +kernel)) (pi_list (pv 8)) (blkOk_by (N := N_law) (sc := defScope s_law) (by decide +kernel)) (fun _ _ _ _ _ => (pg_name (i := 14) sc_law.nd rfl (Or.inl rfl))) (fun _ _ _ _ _ => (pts_one (PW.pt (pw_and (pt_val (pe_call (ok_l_keeps Z) (hr.mono (by decide)) (by rfl) Z.D_l_keeps.g Z.D_l_keeps.kp Z.D_l_keeps.b .nil passL (pa_cons (pe_ix (ix_listK (K := K) rfl) (pv 3) pe_int (fun _ _ => rfl)) (pa_cons (pv 14) pa_nil)))) (pw_and1 (pt_val (pe_call (ok_l_keeps Z) (hr.mono (by decide)) (by rfl) Z.D_l_keeps.g Z.D_l_keeps.kp Z.D_l_keeps.b .nil passL (pa_cons (pe_ix (ix_listK (K := K) rfl) (pv 3) pe_int (fun _ _ => rfl)) (pa_cons (pv 14) pa_nil))))))))) (fun _ _ _ _ _ => (pv 14)))
        (pss_cons (ps_if (PW.pt (pw_or (pt_cmpR op_notBl (pe_meth (pv 7) Z.cl_Order Z.M_Order_keeps_all (ok_Order_keeps_all Z) (hr.mono (by decide)) Z.b_Order_keeps_all .nil (pass_of (E := E) (takes_of rfl rfl rfl rfl)) (pa_cons (pe_call (ok_l_said Z) (hr.mono (by decide)) (by rfl) Z.D_l_said.g Z.D_l_said.kp Z.D_l_said.b .nil (pass_of (E := E) (takes_of rfl rfl rfl rfl)) (pa_cons (pv 9) pa_nil)) pa_nil)) pe_bl (nomark _)) (pw_or1 (pt_cmpR op_notN (pe_callO Z.x_Order__call Z.xf_Order__call Z.xn_Order__call (ok_Order__call Z) Z.b_Order__call (hr.mono (by decide)) (pass_of (E := E) (takes_of rfl rfl rfl rfl)) (pv 7) (pa_cons (pe_call (ok_l_said Z) (hr.mono (by decide)) (by rfl) Z.D_l_said.g Z.D_l_said.kp Z.D_l_said.b .nil (pass_of (E := E) (takes_of rfl rfl rfl rfl)) (pa_cons (pv 9) pa_nil)) pa_nil)) pe_non (nomark _))))) (pss_one (ps_ret pe_bl)) pss_nil)
        (pss_cons (ps_if (PW.pt (pw_or (pt_not (pt_val (pe_call (ok_l_closed Z) (hr.mono (by decide)) (by rfl) Z.D_l_closed.g Z.D_l_closed.kp Z.D_l_closed.b .nil (pass_of (E := E) (takes_of rfl rfl rfl rfl)) (pa_cons (pv 4) (pa_cons (pe_ix ix_list (pv 3) pe_int (fun _ _ => rfl)) (pa_cons (pv 8) pa_nil)))))) (pw_or1 (pt_not (pt_val (pe_call (ok_l_closed Z) (hr.mono (by decide)) (by rfl) Z.D_l_closed.g Z.D_l_closed.kp Z.D_l_closed.b .nil (pass_of (E := E) (takes_of rfl rfl rfl rfl)) (pa_cons (pv 5) (pa_cons (pe_ix ix_list (pv 3) pe_int (fun _ _ => rfl)) (pa_cons (pv 8) pa_nil))))))))) (pss_one (ps_ret pe_bl)) pss_nil)
        (pss_cons (ps_if (pt_not (pt_val (pe_call (ok_l_closed Z) (hr.mono (by decide)) (by rfl) Z.D_l_closed.g Z.D_l_closed.kp Z.D_l_closed.b .nil (pass_of (E := E) (takes_of rfl rfl rfl rfl)) (pa_cons (pv 7) (pa_cons (pe_callTy call_list_of (by rfl) Z.z_list (by decide +kernel) (pa_cons (pe_fld (pv 7) rfl) pa_nil)) (pa_cons (pv 8) pa_nil)))))) (pss_one (ps_ret pe_bl)) pss_nil)
        (pss_cons (ps_par (i := 10) (j := 11) (by rfl) sc_law.nd rfl rfl (by decide) rfl rfl (pa_cons (pe_call (ok_l_marks Z) (hr.mono (by decide)) (by rfl) Z.D_l_marks.g Z.D_l_marks.kp Z.D_l_marks.b .nil (pass_of (E := E) (takes_of rfl rfl rfl rfl)) (pa_cons (pv 2) pa_nil)) (pa_cons (pe_call (ok_l_said Z) (hr.mono (by decide)) (by rfl) Z.D_l_said.g Z.D_l_said.kp Z.D_l_said.b .nil (pass_of (E := E) (takes_of rfl rfl rfl rfl)) (pa_cons (pv 9) pa_nil)) pa_nil)) (by rfl))
        (pss_cons (ps_set (i := 12) sc_law.nd rfl (Or.inl rfl) (pe_callR (star_at (τ := (Cn Book Nl)) (ok_lift Z) (stcS stc0) rfl (by decide)) (hr.mono (by decide)) (by rfl) Z.dg_lift Z.dk_lift (pass_of (E := E) (takes_of rfl rfl rfl rfl)) (pa_cons (pe_make Z.M_Book (ok_Book__init Z) (hr.mono (by decide)) (by rfl) Z.g_Book Z.b_Book__init .nil (pass_of (E := E) (takes_of rfl rfl rfl rfl)) (pa_cons (pv 10) (pa_cons (pe_slice sl_list (pv 11) po_none (po_some pe_int)) pa_nil))) pa_nil)))
        (pss_cons (ps_if (PW.pt (pw_or (pt_not (pt_val (pe_callB call_isi (by rfl) Z.z_isinstance (by decide +kernel) (pa_cons (pv 12) (pa_cons (pe_glob (v := .ref (Z.cls 4)) (by rfl) Z.g_Lifted rfl) pa_nil))))) (pw_or (pt_cmpR op_notBl (pe_meth (pe_fld (pv 12) rfl) Z.cl_Order Z.M_Order_beneath (ok_Order_beneath Z) (hr.mono (by decide)) Z.b_Order_beneath .nil (pass_of (E := E) (takes_of rfl rfl rfl rfl)) (pa_cons (pv 7) pa_nil)) pe_bl (nomark _)) (pw_or1 (pt_not (pt_cmpR (op_ownD (op := .Eq) (fun _ _ => rfl) Z.x_Order__eq Z.xf_Order__eq ((ok_Order__eq Z).raw Z.b_Order__eq .nil) (hr.mono (by decide)) (pass_of (E := E) (takes_of rfl rfl rfl rfl))) (pe_fld (pv 12) rfl) (pe_meth0 (pe_fld (pv 12) rfl) Z.cl_Order Z.M_Order_closed (ok_Order_closed Z) (hr.mono (by decide)) Z.b_Order_closed .nil (pass_of (E := E) (takes_of rfl rfl rfl rfl))) (nomark _))))))) (pss_one (ps_ret pe_bl)) pss_nil)
        (pss_one (ps_ret (pe_and (pe_cmpR op_isBl (pe_meth (pe_fld (pv 12) rfl) Z.cl_Order Z.M_Order_keeps_all (ok_Order_keeps_all Z) (hr.mono (by decide)) Z.b_Order_keeps_all .nil (pass_of (E := E) (takes_of rfl rfl rfl rfl)) (pa_cons (pe_slice sl_list (pv 11) po_none (po_some pe_int)) pa_nil)) pe_bl (nomark _)) (pe_one (pe_cmpR op_isBl (pe_meth (pe_fld (pv 12) rfl) Z.cl_Order Z.M_Order_beneath (ok_Order_beneath Z) (hr.mono (by decide)) Z.b_Order_beneath .nil (pass_of (E := E) (takes_of rfl rfl rfl rfl)) (pa_cons (pe_op (op_ownB Z.sf_Order Z.x_Order__and Z.xf_Order__and ((ok_Order__and Z).raw Z.b_Order__and .nil) (hr.mono (by decide)) (pass_of (E := E) (takes_of rfl rfl rfl rfl))) (pv 4) (pe_meth0 (pv 5) Z.cl_Order Z.M_Order_closed (ok_Order_closed Z) (hr.mono (by decide)) Z.b_Order_closed .nil (pass_of (E := E) (takes_of rfl rfl rfl rfl)))) pa_nil)) pe_bl (nomark _))))))))))))))))))))), ?_⟩
  show BodyOk _ _ [.fx Scr a_script, .un, .un, .un, .un, .un, .un, .un, .un, .un, .un, .un, .un, .un, .un] (w_law_Scr a_script)
  exact bo_ret (Δ := fun _ : Unit => [.un, .un, .un, .un, .un, .un, .un, .un, .un, .un, .un, .un, .un, .un, .un]) (ΔL := fun e : Empty => e.elim) (st_seq (Δ1 := fun v1_s : Bag => [.fx Scr a_script, .fx Bag v1_s, .un, .un, .un, .un, .un, .un, .un, .un, .un, .un, .un, .un, .un]) (st_set (i := 1) (ev_call (ea_cons ev_var (ea_cons ev_int ea_nil))))
        fun v1_s => (st_seq (Δ1 := fun v2_s : Int => [.fx Scr a_script, .fx Bag v1_s, .fx Int v2_s, .un, .un, .un, .un, .un, .un, .un, .un, .un, .un, .un, .un]) (st_set (i := 2) (ev_call (ea_cons ev_var (ea_cons (ev_bor (ev_fr (ef_lst (es_cons ev_int (es_cons ev_int (es_cons ev_int (es_cons ev_int (es_cons ev_int es_nil)))))))) ea_nil))))
        fun v2_s => (st_seq (Δ1 := fun v4_s : (List (List Int)) => [.fx Scr a_script, .fx Bag v1_s, .fx Int v2_s, .fx (List (List Int)) v4_s, .un, .un, .un, .un, .un, .un, .un, .un, .un, .un, .un]) (st_set (i := 3) (ev_fr (ef_comp (ei_tup (es_tup (ev_tupN (es_cons ev_int (es_cons ev_int (es_cons ev_int es_nil))))) eg_name) (fun _ => eb_yes) (fun v3_x => (ev_call (ea_cons (ev_call (ea_cons ev_var (ea_cons ev_var ea_nil))) (ea_cons ev_var ea_nil)))))))
        fun v4_s => (st_seq (Δ1 := fun v5_s : (T3 Order Order Order) => [.fx Scr a_script, .fx Bag v1_s, .fx Int v2_s, .fx (List (List Int)) v4_s, .fx Order v5_s.a, .fx Order v5_s.b, .fx Order v5_s.c, .un, .un, .un, .un, .un, .un, .un, .un]) (st_par3 (ev_make (α := Order) (ea_cons (ev_bor (ev_op ov_ixL (ev_bor ev_var) ev_int)) ea_nil)) (ev_make (α := Order) (ea_cons (ev_bor (ev_op ov_ixL (ev_bor ev_var) ev_int)) ea_nil)) (ev_make (α := Order) (ea_cons (ev_bor (ev_op ov_ixL (ev_bor ev_var) ev_int)) ea_nil)))
        fun v5_s => (st_seq (Δ1 := fun v6_s : Order => [.fx Scr a_script, .fx Bag v1_s, .fx Int v2_s, .fx (List (List Int)) v4_s, .fx Order v5_s.a, .fx Order v5_s.b, .fx Order v5_s.c, .fx Order v6_s, .un, .un, .un, .un, .un, .un, .un]) (st_set (i := 7) (ev_ownB (α := Order) ev_var ev_var))
        fun v6_s => (st_seq (Δ1 := fun v7_s : Unit => [.fx Scr a_script, .fx Bag v1_s, .fx Int v2_s, .fx (List (List Int)) v4_s, .fx Order v5_s.a, .fx Order v5_s.b, .fx Order v5_s.c, .fx Order v6_s, .un, .un, .un, .un, .un, .un, .un]) (st_if (eb_or (eb_not (eb_test (ev_ownD (α := Order) (kd_obj Z.cty_Order) (fun _ => nf_same _ _) ev_var (ev_ownB (α := Order) ev_var ev_var)))) (eb_or (eb_not (eb_test (ev_ownD (α := Order) (kd_obj Z.cty_Order) (fun _ => nf_same _ _) (ev_ownB (α := Order) ev_var ev_var) ev_var))) (eb_not (eb_test (ev_ownD (α := Order) (kd_obj Z.cty_Order) (fun _ => nf_same _ _) (ev_ownB (α := Order) (ev_ownB (α := Order) ev_var ev_var) ev_var) (ev_ownB (α := Order) ev_var (ev_ownB (α := Order) ev_var ev_var))))))) (st_ret ev_bl) (st_nil () (Le.eq (Le.eq (Le.eq (Le.eq (Le.eq (Le.eq (Le.eq (Le.eq (Le.eq (Le.eq (Le.eq (Le.eq (Le.eq (Le.eq (Le.eq Le.nil)))))))))))))))))
        fun v7_s => (st_seq (Δ1 := fun v8_s : Unit => [.fx Scr a_script, .fx Bag v1_s, .fx Int v2_s, .fx (List (List Int)) v4_s, .fx Order v5_s.a, .fx Order v5_s.b, .fx Order v5_s.c, .fx Order v6_s, .un, .un, .un, .un, .un, .un, .un]) (st_if (eb_or (eb_not (eb_val (ev_call (ea_cons ev_var (ea_cons ev_var (ea_cons ev_var (ea_cons ev_var ea_nil))))))) (eb_not (eb_val (ev_call (ea_cons ev_var (ea_cons ev_var (ea_cons ev_var (ea_cons (ev_ownB (α := Order) ev_var ev_var) ea_nil)))))))) (st_ret ev_bl) (st_nil () (Le.eq (Le.eq (Le.eq (Le.eq (Le.eq (Le.eq (Le.eq (Le.eq (Le.eq (Le.eq (Le.eq (Le.eq (Le.eq (Le.eq (Le.eq Le.nil)))))))))))))))))
        fun v8_s => (st_seq (Δ1 := fun v9_s : (List (T3 Int Int Bool)) => [.fx Scr a_script, .fx Bag v1_s, .fx Int v2_s, .fx (List (List Int)) v4_s, .fx Order v5_s.a, .fx Order v5_s.b, .fx Order v5_s.c, .fx Order v6_s, .fx (List (T3 Int Int Bool)) v9_s, .un, .un, .un, .un, .un, .un]) (st_set (i := 8) (ev_call (ea_cons ev_var (ea_cons (ev_bor (ev_op ov_ixL (ev_bor ev_var) ev_int)) (ea_cons (ev_bor (ev_op ov_ixL (ev_bor ev_var) ev_int)) (ea_cons (ev_call (ea_cons ev_var (ea_cons (ev_bor (ev_fr (ef_lst (es_cons ev_int (es_cons ev_int (es_cons ev_int es_nil)))))) ea_nil))) ea_nil))))))
        fun v9_s => (st_seq (Δ1 := fun v11_s : (List (T3 Int Int Bool)) => [.fx Scr a_script, .fx Bag v1_s, .fx Int v2_s, .fx (List (List Int)) v4_s, .fx Order v5_s.a, .fx Order v5_s.b, .fx Order v5_s.c, .fx Order v6_s, .fx (List (T3 Int Int Bool)) v9_s, .fx (List (T3 Int Int Bool)) v11_s, .un, .un, .un, .un, .un]) (st_set (i := 9) (ev_fr (ef_comp (ei_list (es_list ev_var) eg_name) (fun v10_x => (eb_and (eb_val (ev_call (ea_cons (ev_bor (ev_op ov_ixL (ev_bor ev_var) ev_int)) (ea_cons ev_var ea_nil)))) (eb_val (ev_call (ea_cons (ev_bor (ev_op ov_ixL (ev_bor ev_var) ev_int)) (ea_cons ev_var ea_nil)))))) (fun v10_x => ev_var))))
        fun v11_s => (st_seq (Δ1 := fun v12_s : Unit => [.fx Scr a_script, .fx Bag v1_s, .fx Int v2_s, .fx (List (List Int)) v4_s, .fx Order v5_s.a, .fx Order v5_s.b, .fx Order v5_s.c, .fx Order v6_s, .fx (List (T3 Int Int Bool)) v9_s, .fx (List (T3 Int Int Bool)) v11_s, .un, .un, .un, .un, .un]) (st_if (eb_or (eb_test (ev_op ov_isnot (ev_meth (α := Order) (fun _ => rfl) ev_var (ea_cons (ev_bor (ev_fr (ef_call (ea_cons (ev_bor ev_var) ea_nil)))) ea_nil)) ev_bl)) (eb_test (ev_notN (ev_callO (α := Order) ev_var (ea_cons (ev_bor (ev_fr (ef_call (ea_cons (ev_bor ev_var) ea_nil)))) ea_nil))))) (st_ret ev_bl) (st_nil () (Le.eq (Le.eq (Le.eq (Le.eq (Le.eq (Le.eq (Le.eq (Le.eq (Le.eq (Le.eq (Le.eq (Le.eq (Le.eq (Le.eq (Le.eq Le.nil)))))))))))))))))
        fun v12_s => (st_seq (Δ1 := fun v13_s : Unit => [.fx Scr a_script, .fx Bag v1_s, .fx Int v2_s, .fx (List (List Int)) v4_s, .fx Order v5_s.a, .fx Order v5_s.b, .fx Order v5_s.c, .fx Order v6_s, .fx (List (T3 Int Int Bool)) v9_s, .fx (List (T3 Int Int Bool)) v11_s, .un, .un, .un, .un, .un]) (st_if (eb_or (eb_not (eb_val (ev_call (ea_cons ev_var (ea_cons (ev_bor (ev_op ov_ixL (ev_bor ev_var) ev_int)) (ea_cons (ev_bor ev_var) ea_nil)))))) (eb_not (eb_val (ev_call (ea_cons ev_var (ea_cons (ev_bor (ev_op ov_ixL (ev_bor ev_var) ev_int)) (ea_cons (ev_bor ev_var) ea_nil))))))) (st_ret ev_bl) (st_nil () (Le.eq (Le.eq (Le.eq (Le.eq (Le.eq (Le.eq (Le.eq (Le.eq (Le.eq (Le.eq (Le.eq (Le.eq (Le.eq (Le.eq (Le.eq Le.nil)))))))))))))))))
        fun v13_s => (st_seq (Δ1 := fun v14_s : Unit => [.fx Scr a_script, .fx Bag v1_s, .fx Int v2_s, .fx (List (List Int)) v4_s, .fx Order v5_s.a, .fx Order v5_s.b, .fx Order v5_s.c, .fx Order v6_s, .fx (List (T3 Int Int Bool)) v9_s, .fx (List (T3 Int Int Bool)) v11_s, .un, .un, .un, .un, .un]) (st_if (eb_not (eb_val (ev_call (ea_cons ev_var (ea_cons (ev_bor (ev_fr (ef_listT (ev_fld (fun o : Order => o.layers) Z.cl_Order Z.no_Order_layers (fun _ => rfl) ev_var)))) (ea_cons (ev_bor ev_var) ea_nil)))))) (st_ret ev_bl) (st_nil () (Le.eq (Le.eq (Le.eq (Le.eq (Le.eq (Le.eq (Le.eq (Le.eq (Le.eq (Le.eq (Le.eq (Le.eq (Le.eq (Le.eq (Le.eq Le.nil)))))))))))))))))
        fun v14_s => (st_seq (Δ1 := fun v15_s : (T2 Marks (List Saying)) => [.fx Scr a_script, .fx Bag v1_s, .fx Int v2_s, .fx (List (List Int)) v4_s, .fx Order v5_s.a, .fx Order v5_s.b, .fx Order v5_s.c, .fx Order v6_s, .fx (List (T3 Int Int Bool)) v9_s, .fx (List (T3 Int Int Bool)) v11_s, .fx Marks v15_s.a, .fx (List Saying) v15_s.b, .un, .un, .un]) (st_par (ev_call (ea_cons ev_var ea_nil)) (ev_fr (ef_call (ea_cons (ev_bor ev_var) ea_nil))))
        fun v15_s => (st_seq (Δ1 := fun v16_s : (Sm2 Lifted Stuck) => [.fx Scr a_script, .fx Bag v1_s, .fx Int v2_s, .fx (List (List Int)) v4_s, .fx Order v5_s.a, .fx Order v5_s.b, .fx Order v5_s.c, .fx Order v6_s, .fx (List (T3 Int Int Bool)) v9_s, .fx (List (T3 Int Int Bool)) v11_s, .fx Marks v15_s.a, .fx (List Saying) v15_s.b, .fx (Sm2 Lifted Stuck) v16_s, .un, .un]) (st_set (i := 12) (ev_callR (ea_cons (ev_make (α := Book) (ea_cons ev_var (ea_cons (ev_bor (ev_fr (ef_slice (ev_bor ev_var) ep_none (ep_some ev_int)))) ea_nil))) ea_nil)))
        fun v16_s => (st_seq (Δ1 := fun v17_s : Unit => [.fx Scr a_script, .fx Bag v1_s, .fx Int v2_s, .fx (List (List Int)) v4_s, .fx Order v5_s.a, .fx Order v5_s.b, .fx Order v5_s.c, .fx Order v6_s, .fx (List (T3 Int Int Bool)) v9_s, .fx (List (T3 Int Int Bool)) v11_s, .fx Marks v15_s.a, .fx (List Saying) v15_s.b, .fx (Sm2 Lifted Stuck) v16_s, .un, .un]) (st_if (eb_or (eb_not (eb_val (ev_isi (kd_s2 (kd_obj Z.cty_Lifted) (kd_obj Z.cty_Stuck)) (fun s : (Sm2 Lifted Stuck) => match s with | .a _ => true | .b _ => false) (.own _) (fun s => match s with | .a _ => (kit_same _ _) | .b _ => Z.kc_Stuck_Lifted) ev_var))) (eb_or (eb_test (ev_op ov_isnot (ev_meth (α := Order) (fun _ => rfl) (ev_fld (fun o : Lifted => o.order) Z.cl_Lifted Z.no_Lifted_order (fun _ => rfl) (ev_g2a ev_var)) (ea_cons ev_var ea_nil)) ev_bl)) (eb_not (eb_test (ev_ownD (α := Order) (kd_obj Z.cty_Order) (fun _ => nf_same _ _) (ev_fld (fun o : Lifted => o.order) Z.cl_Lifted Z.no_Lifted_order (fun _ => rfl) (ev_g2a ev_var)) (ev_meth (α := Order) (fun _ => rfl) (ev_fld (fun o : Lifted => o.order) Z.cl_Lifted Z.no_Lifted_order (fun _ => rfl) (ev_g2a ev_var)) ea_nil)))))) (st_ret ev_bl) (st_nil () (Le.eq (Le.eq (Le.eq (Le.eq (Le.eq (Le.eq (Le.eq (Le.eq (Le.eq (Le.eq (Le.eq (Le.eq (Le.eq (Le.eq (Le.eq Le.nil)))))))))))))))))
        fun v17_s => (st_ret (ev_and (ev_op ov_is (ev_meth (α := Order) (fun _ => rfl) (ev_fld (fun o : Lifted => o.order) Z.cl_Lifted Z.no_Lifted_order (fun _ => rfl) (ev_g2a ev_var)) (ea_cons (ev_bor (ev_fr (ef_slice (ev_bor ev_var) ep_none (ep_some ev_int)))) ea_nil)) ev_bl) (ev_op ov_is (ev_meth (α := Order) (fun _ => rfl) (ev_fld (fun o : Lifted => o.order) Z.cl_Lifted Z.no_Lifted_order (fun _ => rfl) (ev_g2a ev_var)) (ea_cons (ev_ownB (α := Order) ev_var (ev_meth (α := Order) (fun _ => rfl) ev_var ea_nil)) ea_nil)) ev_bl))))))))))))))))))
end
end TW
set_option Elab.async false
set_option maxRecDepth 100000
set_option maxHeartbeats 4000000
set_option linter.all false
set_option autoImplicit false
/-! the module of orders, by what it gives: days, layers, least -/
namespace TW
open Pa (rep)
open PaL (repL)
open PySem PySem.Spec PyProof.Rows L2 My
theorem e_is_number (x : Int) : w_is_number x = pure true := by unfold w_is_number; simp only [pb, ba, sq_nx, sq_rt, sq_b, sq_i, sq_f, fR_rt, fR_b, fR_i, fR_f, fN_nx, fN_b, fN_i, fN_f, fI_nx, fI_b, fI_i, fI_f, i_b, f_b, if_true, if_false, Bool.false_eq_true, Bool.not_true, Bool.not_false, setW, retW, dropW, ifW, reduceIte]
theorem e_is_whole (x lo hi : Int) : w_is_whole x lo hi = pure (decide (lo ≤ x) && decide (x ≤ hi)) := by
  unfold w_is_whole
  simp only [pb, ba, sq_nx, sq_rt, sq_b, sq_i, sq_f, fR_rt, fR_b, fR_i, fR_f, fN_nx, fN_b, fN_i, fN_f, fI_nx, fI_b, fI_i, fI_f, i_b, f_b, if_true, if_false, Bool.false_eq_true, Bool.not_true, Bool.not_false, setW, retW, dropW, ifW, reduceIte]
  rw [e_is_number]
  simp only [pb, ba, sq_nx, sq_rt, sq_b, sq_i, sq_f, fR_rt, fR_b, fR_i, fR_f, fN_nx, fN_b, fN_i, fN_f, fI_nx, fI_b, fI_i, fI_f, i_b, f_b, if_true, if_false, Bool.false_eq_true, Bool.not_true, Bool.not_false, setW, retW, dropW, ifW, reduceIte]
  cases decide (lo ≤ x) <;> rfl
theorem e_within (a b : Int) : w_within a b = pure (pyEq (Builtin.bitAnd a (Builtin.bitNot b)) (0 : Int)) := by unfold w_within; simp only [pb, ba, sq_nx, sq_rt, sq_b, sq_i, sq_f, fR_rt, fR_b, fR_i, fR_f, fN_nx, fN_b, fN_i, fN_f, fI_nx, fI_b, fI_i, fI_f, i_b, f_b, if_true, if_false, Bool.false_eq_true, Bool.not_true, Bool.not_false, setW, retW, dropW, ifW, reduceIte]
/-- the days of a set -/
def days (n : Nat) : List Nat := (List.range 16).filter fun d => n.testBit d
def daysI (n : Nat) : List Int := (days n).map Int.ofNat
theorem mem_days {n d : Nat} : d ∈ days n ↔ d < 16 ∧ n.testBit d = true := by unfold days; simp
theorem bit_test (n d : Nat) : Tr.tr (Builtin.bitAnd ((n : Int) / 2 ^ d) 1) = n.testBit d := by
  have e : ((n : Int) / 2 ^ d) = ((n >>> d : Nat) : Int) := by
    rw [Nat.shiftRight_eq_div_pow]
    simp
  rw [e, bitAnd_pp (Int.natCast_nonneg _) (by decide)]
  rw [Int.toNat_natCast, show (1 : Int).toNat = 1 from rfl, Nat.testBit, Nat.and_comm]
  cases h : (1 &&& n >>> d) with
  | zero => rfl
  | succ k => rfl
theorem range_filter {n m : Nat} (p : Nat → Bool) (h : ∀ i, n ≤ i → p i = false) : ∀ k, (List.range (n + k)).filter p = (List.range n).filter p
  | 0 => rfl
  | k + 1 => by rw [show n + (k + 1) = n + k + 1 by omega, List.range_succ, List.filter_append, range_filter (m := m) p h k]; simp [h (n + k) (by omega)]
theorem g_days_in (n : Nat) (hn : n < 2 ^ 16) : Gv (w_days_in n) ⟨daysI n⟩ := by
  unfold w_days_in
  simp only [pb, ba, sq_nx, sq_rt, sq_b, sq_i, sq_f, fR_rt, fR_b, fR_i, fR_f, fN_nx, fN_b, fN_i, fN_f, fI_nx, fI_b, fI_i, fI_f, i_b, f_b, if_true, if_false, Bool.false_eq_true, Bool.not_true, Bool.not_false, setW, retW, dropW, ifW, reduceIte]
  have hb : Builtin.Int.intBits (n : Int) ≤ 16 := intBits_le_iff.mpr (by simpa using hn)
  generalize hk : Builtin.Int.intBits (n : Int) = k at hb
  have hl : ∀ i, k ≤ i → n.testBit i = false := fun i hi => by
    have h1 : (n : Int).natAbs < 2 ^ k := intBits_le_iff.mp (Nat.le_of_eq hk)
    have h2 : n < 2 ^ i := Nat.lt_of_lt_of_le (by simpa using h1) (Nat.pow_le_pow_right (by omega) hi)
    exact Nat.testBit_lt_two_pow h2
  refine Gv.need' (by omega) (Gv.need' ?_ ?_)
  · unfold rngL
    rw [List.length_map, List.length_range, Int.toNat_natCast, sizeLine_eq]
    omega
  refine Gv.bind (Gv.comp (tb := fun d => n.testBit d.toNat) (eb := fun d => d) (fun d hd => ?_) (fun d _ _ => Gv.ret)) (Gv.ret.cast ?_)
  · obtain ⟨i, hi⟩ := List.mem_iff_getElem?.mp hd
    obtain ⟨h1, h2⟩ := rngL_get hi
    subst h2
    refine Gv.need' (by omega) (Gv.ret.cast ?_)
    rw [Int.zero_add, Int.toNat_natCast]
    exact bit_test n i
  · congr 1
    unfold daysI days rngL
    rw [Int.toNat_natCast, List.map_id'', List.filter_map, ← show k + (16 - k) = 16 by omega, range_filter (m := 0) (fun d => n.testBit d) hl (16 - k)]
    · refine (congrArg (fun p => List.map _ ((List.range k).filter p)) (funext fun i => ?_)).trans (List.map_congr_left fun i _ => ?_)
      · show n.testBit ((0 : Int) + (i : Nat)).toNat = n.testBit i
        rw [Int.zero_add, Int.toNat_natCast]
      · exact Int.zero_add _
    · intro; rfl
def lay (o : Order) (d : Nat) : Int := (o.layers.l[d]?).getD 0
def leastP (o : Order) (n : Nat) : Option Int := minO ((days n).map (lay o))
def nDays (o : Order) : Nat := o.layers.l.length
theorem g_check_days (o : Order) (n : Nat) (hl : nDays o ≤ 16) (hn : n < 2 ^ nDays o) : Gv (w_Order_check_days o n) () := by
  unfold w_Order_check_days
  unfold nDays at hl hn
  simp only [pb, ba, sq_nx, sq_rt, sq_b, sq_i, sq_f, fR_rt, fR_b, fR_i, fR_f, fN_nx, fN_b, fN_i, fN_f, fI_nx, fI_b, fI_i, fI_f, i_b, f_b, if_true, if_false, Bool.false_eq_true, Bool.not_true, Bool.not_false, setW, retW, dropW, ifW, reduceIte]
  refine Gv.need' ⟨by omega, by omega, by decide⟩ ?_
  rw [e_is_whole]
  have h2 : (n : Int) ≤ 1 * 2 ^ (((o.layers.l.length : Nat) : Int)).toNat - 1 := by
    rw [Int.toNat_natCast, Int.one_mul]
    have : ((2 ^ o.layers.l.length : Nat) : Int) = (2 : Int) ^ o.layers.l.length := by simp
    omega
  simp only [pb, ba, sq_nx, sq_rt, sq_b, sq_i, sq_f, fR_rt, fR_b, fR_i, fR_f, fN_nx, fN_b, fN_i, fN_f, fI_nx, fI_b, fI_i, fI_f, i_b, f_b, if_true, if_false, Bool.false_eq_true, Bool.not_true, Bool.not_false, setW, retW, dropW, ifW, reduceIte]
  rw [decide_eq_true (show (0 : Int) ≤ n by omega), decide_eq_true h2]
  exact Gv.ret
theorem at_lay (o : Order) (d : Nat) (h : d < nDays o) : atI o.layers.l (d : Int) = some (lay o d) := by
  unfold nDays at h
  refine atI_nat ?_
  unfold lay
  rw [List.getElem?_eq_getElem h]
  rfl
theorem days_lt {n k d : Nat} (hn : n < 2 ^ k) (h : d ∈ days n) : d < k := by
  have := (mem_days.mp h).2
  refine Nat.lt_of_not_le fun z => ?_
  rw [Nat.testBit_lt_two_pow (Nat.lt_of_lt_of_le hn (Nat.pow_le_pow_right (by omega) z))] at this
  cases this
theorem days_len (n : Nat) : (days n).length ≤ 16 := by
  unfold days
  refine Nat.le_trans (List.length_filter_le _ _) ?_
  rw [List.length_range]
  exact Nat.le_refl _
theorem g_least (o : Order) (n : Nat) (hl : nDays o ≤ 16) (hn : n < 2 ^ nDays o) : Gv (w_Order_least o n) (leastP o n) := by
  unfold w_Order_least
  simp only [pb, ba, sq_nx, sq_rt, sq_b, sq_i, sq_f, fR_rt, fR_b, fR_i, fR_f, fN_nx, fN_b, fN_i, fN_f, fI_nx, fI_b, fI_i, fI_f, i_b, f_b, if_true, if_false, Bool.false_eq_true, Bool.not_true, Bool.not_false, setW, retW, dropW, ifW, reduceIte]
  refine (g_check_days o n hl hn).bind ((g_days_in n (Nat.lt_of_lt_of_le hn (Nat.pow_le_pow_right (by omega) hl))).bind ?_)
  refine Gv.need' ?_ (Gv.bind (Gv.all (eb := fun d => lay o d.toNat) fun d hd => ?_) (Gv.ret.cast ?_))
  · show (daysI n).length ≤ sizeLine
    unfold daysI
    have := days_len n
    rw [List.length_map, sizeLine_eq]
    omega
  · have hd : d ∈ daysI n := hd
    unfold daysI at hd
    obtain ⟨e, he, rfl⟩ := List.mem_map.mp hd
    exact Gv.get (at_lay o e (days_lt hn he))
  · show minO (List.map (fun d => lay o d.toNat) (daysI n)) = leastP o n
    unfold daysI leastP
    rw [List.map_map]
    rfl
/-- layers that an order may have -/
structure Lay (l : List Int) : Prop where
  n : l.length = 2 ∨ l.length = 4 ∨ l.length = 8 ∨ l.length = 16
  b : ∀ x ∈ l, 0 ≤ x ∧ x ≤ 1000000000000000000000000000000
  z : (0 : Int) ∈ l
theorem Lay.le {l : List Int} (h : Lay l) : l.length ≤ 16 := by rcases h.n with h | h | h | h <;> omega
theorem g_init (l : List Int) (h : Lay l) : Gv (w_Order__init ⟨l⟩) ⟨⟨l⟩⟩ := by
  unfold w_Order__init wb_Order__init
  simp only [pb, ba, sq_nx, sq_rt, sq_b, sq_i, sq_f, fR_rt, fR_b, fR_i, fR_f, fN_nx, fN_b, fN_i, fN_f, fI_nx, fI_b, fI_i, fI_f, i_b, f_b, if_true, if_false, Bool.false_eq_true, Bool.not_true, Bool.not_false, setW, retW, dropW, ifW, reduceIte]
  refine Gv.bind (a := ()) ?_ ?_
  · unfold w_check_layers
    simp only [pb, ba, sq_nx, sq_rt, sq_b, sq_i, sq_f, fR_rt, fR_b, fR_i, fR_f, fN_nx, fN_b, fN_i, fN_f, fI_nx, fI_b, fI_i, fI_f, i_b, f_b, if_true, if_false, Bool.false_eq_true, Bool.not_true, Bool.not_false, setW, retW, dropW, ifW, reduceIte]
    have e : inF ((l.length : Nat) : Int) c_DAY_COUNTS.l = true := by
      rw [inF_ii]
      refine decide_eq_true ?_
      unfold c_DAY_COUNTS
      rcases h.n with h | h | h | h <;> rw [h] <;> decide
    rw [e]
    simp only [pb, ba, sq_nx, sq_rt, sq_b, sq_i, sq_f, fR_rt, fR_b, fR_i, fR_f, fN_nx, fN_b, fN_i, fN_f, fI_nx, fI_b, fI_i, fI_f, i_b, f_b, if_true, if_false, Bool.false_eq_true, Bool.not_true, Bool.not_false, setW, retW, dropW, ifW, reduceIte]
    refine Gv.fN (s := ()) (Gv.seq (s := ()) (Gv.for (g := fun s _ => s) fun x u hx => ?_) Gv.ret)
    obtain ⟨h0, h1⟩ := h.b x hx
    rw [e_is_whole, decide_eq_true h0, decide_eq_true h1]
    exact Gv.ret
  · rw [inF_ii, decide_eq_true h.z]
    exact Gv.ret
theorem e_is_day_set (x : Int) : w_is_day_set x = pure (decide (0 ≤ x) && decide (x ≤ 65535)) := by
  unfold w_is_day_set
  simp only [pb, ba, sq_nx, sq_rt, sq_b, sq_i, sq_f, fR_rt, fR_b, fR_i, fR_f, fN_nx, fN_b, fN_i, fN_f, fI_nx, fI_b, fI_i, fI_f, i_b, f_b, if_true, if_false, Bool.false_eq_true, Bool.not_true, Bool.not_false, setW, retW, dropW, ifW, reduceIte]
  rw [e_is_whole]
  rfl
end TW
set_option Elab.async false
set_option maxRecDepth 100000
set_option maxHeartbeats 4000000
set_option linter.all false
set_option autoImplicit false
/-! sayings of any where and then; keeping -/
namespace TW
open Pa (rep)
open PaL (repL)
open PySem PySem.Spec PyProof.Rows L2 My
/-- a saying as drawn: where, then, kind -/
structure SN where
  w : Nat
  t : Nat
  u : Bool
def SN.c (s : SN) : Nat := s.w &&& s.t
def SN.b (s : SN) : Nat := s.w ^^^ (s.w &&& s.t)
def SN.lo (s : SN) : Nat := if s.u then s.c else s.b
def SN.hi (s : SN) : Nat := if s.u then s.b else s.c
def SN.step (s : SN) : Int := if s.u then 1 else 0
def SN.t3 (s : SN) : T3 Int Int Bool := ⟨(s.w : Int), (s.t : Int), s.u⟩
def SN.sy (s : SN) : Saying := ⟨(s.w : Int), (s.t : Int), s.u, (s.c : Int), (s.b : Int), (s.lo : Int), (s.hi : Int), s.step⟩
/-- its contrary -/
def SN.co (s : SN) : SN := ⟨s.w, s.t, !s.u⟩
structure SN.Ok (n : Nat) (s : SN) : Prop where
  p : 0 < s.w
  w : s.w < 2 ^ n
  t : s.t < 2 ^ n
theorem SN.c_bit (s : SN) (i : Nat) : s.c.testBit i = (s.w.testBit i && s.t.testBit i) := by unfold SN.c; rw [Nat.testBit_and]
theorem SN.b_bit (s : SN) (i : Nat) : s.b.testBit i = (s.w.testBit i && !s.t.testBit i) := by
  unfold SN.b
  rw [Nat.testBit_xor, Nat.testBit_and]
  cases s.w.testBit i <;> cases s.t.testBit i <;> rfl
theorem SN.cb (s : SN) : s.c + s.b = s.w := by
  have h := nat_or_add_and s.c s.b
  have h1 : s.c ||| s.b = s.w := by
    refine Nat.eq_of_testBit_eq fun i => ?_
    rw [Nat.testBit_or, s.c_bit, s.b_bit]
    cases s.w.testBit i <;> cases s.t.testBit i <;> rfl
  have h2 : s.c &&& s.b = 0 := by
    refine Nat.eq_of_testBit_eq fun i => ?_
    rw [Nat.testBit_and, s.c_bit, s.b_bit, Nat.zero_testBit]
    cases s.w.testBit i <;> cases s.t.testBit i <;> rfl
  omega
theorem SN.c_eq (s : SN) : Builtin.bitAnd (s.w : Int) (s.t : Int) = (s.c : Int) := by
  rw [bitAnd_pp (Int.natCast_nonneg _) (Int.natCast_nonneg _), Int.toNat_natCast, Int.toNat_natCast]
  rfl
theorem SN.b_eq (s : SN) : Builtin.bitAnd (s.w : Int) (Builtin.bitNot (s.t : Int)) = (s.b : Int) := by
  rw [bitAnd_not, s.c_eq]
  have := s.cb
  omega
theorem SN.or_eq (s : SN) : Builtin.bitOr (s.w : Int) (s.t : Int) = ((s.w ||| s.t : Nat) : Int) := by
  rw [bitOr_nn (Int.natCast_nonneg _) (Int.natCast_nonneg _), Int.toNat_natCast, Int.toNat_natCast]
theorem SN.Ok.wt {n : Nat} {s : SN} (h : s.Ok n) : s.w ||| s.t < 2 ^ n := Nat.or_lt_two_pow h.w h.t
theorem SN.Ok.c {n : Nat} {s : SN} (h : s.Ok n) : s.c < 2 ^ n := by have := s.cb; have := h.w; omega
theorem SN.Ok.b {n : Nat} {s : SN} (h : s.Ok n) : s.b < 2 ^ n := by have := s.cb; have := h.w; omega
theorem SN.Ok.lo {n : Nat} {s : SN} (h : s.Ok n) : s.lo < 2 ^ n := by unfold SN.lo; split; exact h.c; exact h.b
theorem SN.Ok.hi {n : Nat} {s : SN} (h : s.Ok n) : s.hi < 2 ^ n := by unfold SN.hi; split; exact h.b; exact h.c
theorem SN.Ok.co {n : Nat} {s : SN} (h : s.Ok n) : s.co.Ok n := ⟨h.p, h.w, h.t⟩
theorem SN.Ok.up {n m : Nat} {s : SN} (h : s.Ok n) (k : n ≤ m) : s.Ok m := by
  have := Nat.pow_le_pow_right (show 0 < 2 by omega) k
  exact ⟨h.p, Nat.lt_of_lt_of_le h.w this, Nat.lt_of_lt_of_le h.t this⟩
theorem g_saying (s : SN) (h : s.Ok 16) : Gv (w_Saying__init (s.w : Int) (s.t : Int) s.u) s.sy := by
  have hw := h.w
  have ht := h.t
  have hp := h.p
  unfold w_Saying__init wb_Saying__init
  simp only [pb, ba, sq_nx, sq_rt, sq_b, sq_i, sq_f, fR_rt, fR_b, fR_i, fR_f, fN_nx, fN_b, fN_i, fN_f, fI_nx, fI_b, fI_i, fI_f, i_b, f_b, if_true, if_false, Bool.false_eq_true, Bool.not_true, Bool.not_false, setW, retW, dropW, ifW, reduceIte]
  rw [e_is_day_set, decide_eq_true (show (0 : Int) ≤ (s.w : Int) by omega), decide_eq_true (show (s.w : Int) ≤ 65535 by omega), e_is_day_set, decide_eq_true (show (0 : Int) ≤ (s.t : Int) by omega), decide_eq_true (show (s.t : Int) ≤ 65535 by omega), pyEq_ii, decide_eq_false (show ¬ (s.w : Int) = 0 by omega), s.c_eq, s.b_eq]
  simp only [pb, ba, sq_nx, sq_rt, sq_b, sq_i, sq_f, fR_rt, fR_b, fR_i, fR_f, fN_nx, fN_b, fN_i, fN_f, fI_nx, fI_b, fI_i, fI_f, i_b, f_b, if_true, if_false, Bool.false_eq_true, Bool.not_true, Bool.not_false, setW, retW, dropW, ifW, reduceIte]
  unfold SN.sy SN.lo SN.hi SN.step
  cases s.u <;> exact Gv.ret
theorem g_contrary (s : SN) (h : s.Ok 16) : Gv (w_Saying_contrary s.sy) s.co.sy := by
  unfold w_Saying_contrary
  simp only [pb, ba, sq_nx, sq_rt, sq_b, sq_i, sq_f, fR_rt, fR_b, fR_i, fR_f, fN_nx, fN_b, fN_i, fN_f, fI_nx, fI_b, fI_i, fI_f, i_b, f_b, if_true, if_false, Bool.false_eq_true, Bool.not_true, Bool.not_false, setW, retW, dropW, ifW, reduceIte]
  exact (g_saying s.co h.co).bind Gv.ret
/-- whether an order keeps a saying -/
def SN.kept (o : Order) (s : SN) : Bool :=
  match leastP o s.hi, leastP o s.lo with
  | none, _ => true
  | some _, none => false
  | some x, some y => decide (y + s.step ≤ x)
theorem g_keeps (o : Order) (s : SN) (hl : nDays o ≤ 16) (h : s.Ok (nDays o)) : Gv (w_Order_keeps o s.sy) (s.kept o) := by
  unfold w_Order_keeps
  simp only [pb, ba, sq_nx, sq_rt, sq_b, sq_i, sq_f, fR_rt, fR_b, fR_i, fR_f, fN_nx, fN_b, fN_i, fN_f, fI_nx, fI_b, fI_i, fI_f, i_b, f_b, if_true, if_false, Bool.false_eq_true, Bool.not_true, Bool.not_false, setW, retW, dropW, ifW, reduceIte]
  show Gv (w_Order_check_days o (Builtin.bitOr (s.w : Int) (s.t : Int)) >>= fun _ => w_Order_least o (s.lo : Int) >>= fun y => w_Order_least o (s.hi : Int) >>= fun x => _) _
  rw [s.or_eq]
  refine (g_check_days o _ hl h.wt).bind ((g_least o _ hl h.lo).bind ((g_least o _ hl h.hi).bind ?_))
  unfold SN.kept
  cases h6 : leastP o s.hi with
  | none => exact Gv.ret
  | some x =>
    cases h7 : leastP o s.lo with
    | none => exact Gv.ret
    | some y => exact (Gv.get rfl).bind ((Gv.get rfl).bind Gv.ret)
/-- a saying with other days is refused -/
theorem t_check_days (o : Order) (n : Nat) (hl : nDays o ≤ 16) (hn : 2 ^ nDays o ≤ n) : Th (w_Order_check_days o n) ⟨112, []⟩ := by
  unfold w_Order_check_days
  unfold nDays at hl hn
  simp only [pb, ba, sq_nx, sq_rt, sq_b, fR_rt, fR_b, fN_nx, fN_b, setW, retW, dropW]
  refine Th.need ⟨by omega, by omega, by decide⟩ ?_
  rw [e_is_whole]
  have h2 : ¬ (n : Int) ≤ 1 * 2 ^ (((o.layers.l.length : Nat) : Int)).toNat - 1 := by
    rw [Int.toNat_natCast, Int.one_mul]
    have : ((2 ^ o.layers.l.length : Nat) : Int) = (2 : Int) ^ o.layers.l.length := by simp
    omega
  rw [decide_eq_true (show (0 : Int) ≤ n by omega), decide_eq_false h2]
  exact Th.thr
theorem t_keeps (o : Order) (s : SN) (hl : nDays o ≤ 16) (h : 2 ^ nDays o ≤ s.w ||| s.t) : Th (w_Order_keeps o s.sy) ⟨112, []⟩ := by
  unfold w_Order_keeps
  simp only [pb, ba, sq_nx, sq_rt, sq_b, fR_rt, fR_b, fN_nx, fN_b, setW, retW, dropW]
  show Th (w_Order_check_days o (Builtin.bitOr (s.w : Int) (s.t : Int)) >>= fun _ => _) _
  rw [s.or_eq]
  exact (t_check_days o _ hl h).bind
/-! ### by days -/
theorem minO_some {xs : List Int} (h : xs ≠ []) : minO xs = some (minL xs) := if_neg h
theorem minO_none : minO [] = none := rfl
theorem least_none {o : Order} {n : Nat} : leastP o n = none ↔ days n = [] := by
  unfold leastP minO
  by_cases h : days n = []
  · simp [h]
  · simp [h]
theorem least_some {o : Order} {n : Nat} {x : Int} : leastP o n = some x ↔ (∃ d ∈ days n, lay o d = x) ∧ ∀ d ∈ days n, x ≤ lay o d := by
  unfold leastP
  by_cases h : days n = []
  · rw [h]
    exact ⟨fun z => (nomatch z), fun ⟨⟨d, z, _⟩, _⟩ => (nomatch z)⟩
  · have hm : (days n).map (lay o) ≠ [] := by simpa using h
    rw [minO_some hm]
    constructor
    · intro z
      have z : minL ((days n).map (lay o)) = x := Option.some.inj z
      obtain ⟨d, hd, e⟩ := List.mem_map.mp (minL_mem hm)
      exact ⟨⟨d, hd, e.trans z⟩, fun d hd => z ▸ minL_le (List.mem_map.mpr ⟨d, hd, rfl⟩)⟩
    · rintro ⟨⟨d, hd, e⟩, k⟩
      obtain ⟨d2, hd2, e2⟩ := List.mem_map.mp (minL_mem hm)
      have h1 : minL ((days n).map (lay o)) ≤ x := e ▸ minL_le (List.mem_map.mpr ⟨d, hd, rfl⟩)
      have h2 := k d2 hd2
      congr 1
      omega
theorem kept_iff {o : Order} {s : SN} : s.kept o = true ↔ ∀ h ∈ days s.hi, ∃ l ∈ days s.lo, lay o l + s.step ≤ lay o h := by
  unfold SN.kept
  cases h6 : leastP o s.hi with
  | none =>
    have := least_none.mp h6
    rw [this]
    exact ⟨fun _ => nofun, fun _ => rfl⟩
  | some x =>
    obtain ⟨⟨d, hd, hx⟩, hm⟩ := least_some.mp h6
    cases h7 : leastP o s.lo with
    | none =>
      have := least_none.mp h7
      rw [this]
      exact ⟨nofun, fun z => by obtain ⟨l, hl, _⟩ := z d hd; cases hl⟩
    | some y =>
      obtain ⟨⟨e, he, hy⟩, hn⟩ := least_some.mp h7
      show decide (y + s.step ≤ x) = true ↔ _
      rw [decide_eq_true_iff]
      constructor
      · intro z h hh
        have := hm h hh
        exact ⟨e, he, by omega⟩
      · intro z
        obtain ⟨l, hl, k⟩ := z d hd
        have := hn l hl
        omega
theorem days_ne {n k : Nat} (h : 0 < n) (hk : n < 2 ^ k) (hz : k ≤ 16) : days n ≠ [] := fun z => by
  have hlt : n < 2 ^ 16 := Nat.lt_of_lt_of_le hk (Nat.pow_le_pow_right (by omega) hz)
  have e : n = 0 := by
    refine Nat.eq_of_testBit_eq fun i => ?_
    rw [Nat.zero_testBit]
    by_cases hi : i < 16
    · cases hb : n.testBit i with
      | false => rfl
      | true =>
        have : i ∈ days n := mem_days.mpr ⟨hi, hb⟩
        rw [z] at this
        cases this
    · exact Nat.testBit_lt_two_pow (Nat.lt_of_lt_of_le hlt (Nat.pow_le_pow_right (by omega) (by omega)))
  omega
/-- exactly one of a saying and its contrary is kept -/
theorem kept_co {o : Order} {s : SN} (h : s.Ok 16) : s.co.kept o = !s.kept o := by
  have hl : s.co.lo = s.hi := by unfold SN.co SN.lo SN.hi SN.c SN.b; cases s.u <;> rfl
  have hh : s.co.hi = s.lo := by unfold SN.co SN.lo SN.hi SN.c SN.b; cases s.u <;> rfl
  have hs : s.co.step = 1 - s.step := by unfold SN.co SN.step; cases s.u <;> rfl
  have ne : ¬ (days s.lo = [] ∧ days s.hi = []) := fun ⟨z1, z2⟩ => by
    have e := s.cb
    have hp := h.p
    have h1 : s.lo = 0 := Nat.eq_zero_of_not_pos fun z => days_ne z h.lo (Nat.le_refl _) z1
    have h2 : s.hi = 0 := Nat.eq_zero_of_not_pos fun z => days_ne z h.hi (Nat.le_refl _) z2
    unfold SN.lo at h1
    unfold SN.hi at h2
    cases hu : s.u <;> rw [hu] at h1 h2 <;> simp at h1 h2 <;> omega
  have hstep : s.step = 0 ∨ s.step = 1 := by unfold SN.step; cases s.u <;> simp
  unfold SN.kept
  rw [hl, hh, hs]
  cases h6 : leastP o s.hi with
  | none =>
    cases h7 : leastP o s.lo with
    | none => exact (ne ⟨least_none.mp h7, least_none.mp h6⟩).elim
    | some y => rfl
  | some x =>
    cases h7 : leastP o s.lo with
    | none => rfl
    | some y =>
      show decide _ = !decide _
      rw [← decide_not]
      exact decide_eq_decide.mpr (by omega)
end TW
set_option Elab.async false
set_option maxRecDepth 100000
set_option maxHeartbeats 4000000
set_option linter.all false
set_option autoImplicit false
/-! books of sayings; the law's own keeping -/
namespace TW
open Pa (rep)
open PaL (repL)
open PySem PySem.Spec PyProof.Rows L2 My
def OkL (n : Nat) (ss : List SN) : Prop := ∀ s ∈ ss, s.Ok n
def firstN (o : Order) (ss : List SN) : Option Int := (ss.findIdx? fun s => !s.kept o).map Int.ofNat
theorem fst_loop {S : Type} (o : Order) (f : T2 Int S → Unit → W (Res Unit (Option Int) Unit)) (mk : SN → S) : ∀ (ss : List SN) (i : Nat),
    (∀ (j : Nat) (s : SN), ss[j]? = some s → Gv (f ⟨(i + j : Nat), mk s⟩ ()) (if s.kept o then .nx () else .rt (some ((i + j : Nat) : Int)))) →
    Gv (forW (L := Empty) f (((ss.map mk).zipIdx i).map fun p => (⟨(p.2 : Int), p.1⟩ : T2 Int S)) ()) (match ss.findIdx? fun r => !r.kept o with | none => .nx () | some j => .rt (some ((i + j : Nat) : Int)))
  | [], i, _ => Gv.ret
  | s :: ss, i, hf => by
    have ih := fst_loop o f mk ss (i + 1) fun j s' e1 => by
      have := hf (j + 1) s' (by simpa using e1)
      rwa [show i + (j + 1) = i + 1 + j by omega] at this
    have h0 := hf 0 s rfl
    rw [List.findIdx?_cons, List.map_cons, List.zipIdx_cons, List.map_cons]
    refine h0.bind ?_
    cases hk : s.kept o with
    | true =>
      rw [if_pos rfl]
      refine ih.cast ?_
      show _ = (match Option.map (fun j => j + 1) (ss.findIdx? fun r => !r.kept o) with | none => Res.nx () | some j => Res.rt (some ((i + j : Nat) : Int)))
      cases ss.findIdx? fun r => !r.kept o with
      | none => rfl
      | some j => show Res.rt _ = Res.rt _; rw [show i + 1 + j = i + (j + 1) by omega]
    | false => exact Gv.ret
theorem g_first (o : Order) (ss : List SN) (hl : nDays o ≤ 16) (h : OkL (nDays o) ss) : Gv (w_Order_first_not_kept o ⟨ss.map SN.sy⟩) (firstN o ss) := by
  unfold w_Order_first_not_kept
  simp only [pb, ba, sq_nx, sq_rt, sq_b, sq_i, sq_f, fR_rt, fR_b, fR_i, fR_f, fN_nx, fN_b, fN_i, fN_f, fI_nx, fI_b, fI_i, fI_f, i_b, f_b, if_true, if_false, Bool.false_eq_true, Bool.not_true, Bool.not_false, setW, retW, dropW, ifW, reduceIte]
  refine Gv.fR (Gv.seq (s := ()) (Gv.for (g := fun s _ => s) fun s u hs => ?_) ?_)
  · obtain ⟨s, hs2, rfl⟩ := List.mem_map.mp hs
    show Gv (w_Order_check_days o (Builtin.bitOr (s.w : Int) (s.t : Int)) >>= _) _
    rw [s.or_eq]
    exact (g_check_days o _ hl (h s hs2).wt).bind Gv.ret
  · have hloop := fst_loop o (fun v5_x v6_s => do
          let a ← w_Order_keeps o v5_x.b
          if (!a) = true then pure (Res.rt (some v5_x.a)) else pure (Res.nx ())) SN.sy ss 0 fun j s e1 => ?f
    · refine Gv.bind hloop ?_
      unfold firstN
      cases hq : ss.findIdx? fun r => !r.kept o with
      | none => exact Gv.ret
      | some j => exact Gv.ret.cast (by rw [Nat.zero_add]; rfl)
    case f =>
      refine (g_keeps o s hl (h s (List.mem_of_getElem? e1))).bind ?_
      cases s.kept o with
      | true => exact Gv.ret
      | false => exact Gv.ret
theorem g_first_T (o : Order) (ss : List SN) (hl : nDays o ≤ 16) (h : OkL (nDays o) ss) : Gv (w_Order_first_not_kept_OrderTSaying o ⟨ss.map SN.sy⟩) (firstN o ss) := g_first o ss hl h
theorem g_first_B (o : Order) (m : Marks) (ss : List SN) (hl : nDays o ≤ 16) (h : OkL (nDays o) ss) : Gv (w_Order_first_not_kept_OrderBook o ⟨m, ⟨ss.map SN.sy⟩⟩) (firstN o ss) := g_first o ss hl h
theorem g_call (o : Order) (ss : List SN) (hl : nDays o ≤ 16) (h : OkL (nDays o) ss) : Gv (w_Order__call o ⟨ss.map SN.sy⟩) (firstN o ss) := by
  unfold w_Order__call
  simp only [pb, ba, sq_nx, sq_rt, sq_b, sq_i, sq_f, fR_rt, fR_b, fR_i, fR_f, fN_nx, fN_b, fN_i, fN_f, fI_nx, fI_b, fI_i, fI_f, i_b, f_b, if_true, if_false, Bool.false_eq_true, Bool.not_true, Bool.not_false, setW, retW, dropW, ifW, reduceIte]
  exact (g_first o ss hl h).bind Gv.ret
theorem g_call_T (o : Order) (ss : List SN) (hl : nDays o ≤ 16) (h : OkL (nDays o) ss) : Gv (w_Order__call_OrderTSaying o ⟨ss.map SN.sy⟩) (firstN o ss) := by
  unfold w_Order__call_OrderTSaying
  simp only [pb, ba, sq_nx, sq_rt, sq_b, sq_i, sq_f, fR_rt, fR_b, fR_i, fR_f, fN_nx, fN_b, fN_i, fN_f, fI_nx, fI_b, fI_i, fI_f, i_b, f_b, if_true, if_false, Bool.false_eq_true, Bool.not_true, Bool.not_false, setW, retW, dropW, ifW, reduceIte]
  exact (g_first_T o ss hl h).bind Gv.ret
theorem g_call_B (o : Order) (m : Marks) (ss : List SN) (hl : nDays o ≤ 16) (h : OkL (nDays o) ss) : Gv (w_Order__call_OrderBook o ⟨m, ⟨ss.map SN.sy⟩⟩) (firstN o ss) := by
  unfold w_Order__call_OrderBook
  simp only [pb, ba, sq_nx, sq_rt, sq_b, sq_i, sq_f, fR_rt, fR_b, fR_i, fR_f, fN_nx, fN_b, fN_i, fN_f, fI_nx, fI_b, fI_i, fI_f, i_b, f_b, if_true, if_false, Bool.false_eq_true, Bool.not_true, Bool.not_false, setW, retW, dropW, ifW, reduceIte]
  exact (g_first_B o m ss hl h).bind Gv.ret
theorem g_keeps_all (o : Order) (ss : List SN) (hl : nDays o ≤ 16) (h : OkL (nDays o) ss) : Gv (w_Order_keeps_all o ⟨ss.map SN.sy⟩) (firstN o ss).isNone := by
  unfold w_Order_keeps_all
  simp only [pb, ba, sq_nx, sq_rt, sq_b, sq_i, sq_f, fR_rt, fR_b, fR_i, fR_f, fN_nx, fN_b, fN_i, fN_f, fI_nx, fI_b, fI_i, fI_f, i_b, f_b, if_true, if_false, Bool.false_eq_true, Bool.not_true, Bool.not_false, setW, retW, dropW, ifW, reduceIte]
  exact (g_first o ss hl h).bind Gv.ret
theorem g_keeps_all_T (o : Order) (ss : List SN) (hl : nDays o ≤ 16) (h : OkL (nDays o) ss) : Gv (w_Order_keeps_all_OrderTSaying o ⟨ss.map SN.sy⟩) (firstN o ss).isNone := by
  unfold w_Order_keeps_all_OrderTSaying
  simp only [pb, ba, sq_nx, sq_rt, sq_b, sq_i, sq_f, fR_rt, fR_b, fR_i, fR_f, fN_nx, fN_b, fN_i, fN_f, fI_nx, fI_b, fI_i, fI_f, i_b, f_b, if_true, if_false, Bool.false_eq_true, Bool.not_true, Bool.not_false, setW, retW, dropW, ifW, reduceIte]
  exact (g_first_T o ss hl h).bind Gv.ret
theorem g_keeps_all_B (o : Order) (m : Marks) (ss : List SN) (hl : nDays o ≤ 16) (h : OkL (nDays o) ss) : Gv (w_Order_keeps_all_OrderBook o ⟨m, ⟨ss.map SN.sy⟩⟩) (firstN o ss).isNone := by
  unfold w_Order_keeps_all_OrderBook
  simp only [pb, ba, sq_nx, sq_rt, sq_b, sq_i, sq_f, fR_rt, fR_b, fR_i, fR_f, fN_nx, fN_b, fN_i, fN_f, fI_nx, fI_b, fI_i, fI_f, i_b, f_b, if_true, if_false, Bool.false_eq_true, Bool.not_true, Bool.not_false, setW, retW, dropW, ifW, reduceIte]
  exact (g_first_B o m ss hl h).bind Gv.ret
/-- a saying with other days among others is refused -/
theorem t_first (o : Order) (as bs : List SN) (s : SN) (hl : nDays o ≤ 16) (h : OkL (nDays o) as) (hb : 2 ^ nDays o ≤ s.w ||| s.t) : Th (w_Order_first_not_kept o ⟨(as ++ s :: bs).map SN.sy⟩) ⟨112, []⟩ := by
  unfold w_Order_first_not_kept
  simp only [pb, ba, sq_nx, sq_rt, sq_b, fR_rt, fR_b, fN_nx, fN_b, setW, retW, dropW]
  rw [List.map_append, List.map_cons]
  refine Th.bind (Th.bind (Th.fors ?_ fun a ha => ?_))
  · show Th (w_Order_check_days o (Builtin.bitOr (s.w : Int) (s.t : Int)) >>= _) _
    rw [s.or_eq]
    exact (t_check_days o _ hl hb).bind
  · obtain ⟨a, ha2, rfl⟩ := List.mem_map.mp ha
    show Gv (w_Order_check_days o (Builtin.bitOr (a.w : Int) (a.t : Int)) >>= _) _
    rw [a.or_eq]
    exact (g_check_days o _ hl (h a ha2).wt).bind Gv.ret
theorem t_first_T (o : Order) (as bs : List SN) (s : SN) (hl : nDays o ≤ 16) (h : OkL (nDays o) as) (hb : 2 ^ nDays o ≤ s.w ||| s.t) : Th (w_Order_first_not_kept_OrderTSaying o ⟨(as ++ s :: bs).map SN.sy⟩) ⟨112, []⟩ := t_first o as bs s hl h hb
/-! ### the law's own -/
theorem g_sides (s : SN) : Gv (w_l_sides s.t3) ⟨(s.lo : Int), (s.hi : Int)⟩ := by
  unfold w_l_sides
  simp only [pb, ba, sq_nx, sq_rt, sq_b, sq_i, sq_f, fR_rt, fR_b, fR_i, fR_f, fN_nx, fN_b, fN_i, fN_f, fI_nx, fI_b, fI_i, fI_f, i_b, f_b, if_true, if_false, Bool.false_eq_true, Bool.not_true, Bool.not_false, setW, retW, dropW, ifW, reduceIte]
  show Gv (if s.u = true then pure (T2.mk (Builtin.bitAnd (s.w : Int) (s.t : Int)) (Builtin.bitAnd (s.w : Int) (Builtin.bitNot (s.t : Int)))) else pure (T2.mk (Builtin.bitAnd (s.w : Int) (Builtin.bitNot (s.t : Int))) (Builtin.bitAnd (s.w : Int) (s.t : Int)))) _
  rw [s.c_eq, s.b_eq]
  unfold SN.lo SN.hi
  cases s.u <;> exact Gv.ret
theorem bit_test1 (n d : Nat) : pyEq (Builtin.bitAnd ((n : Int) / 2 ^ d) 1) (1 : Int) = n.testBit d := by
  have h := bit_test n d
  have e : ((n : Int) / 2 ^ d) = ((n >>> d : Nat) : Int) := by
    rw [Nat.shiftRight_eq_div_pow]
    simp
  rw [pyEq_ii, ← h, e, bitAnd_pp (Int.natCast_nonneg _) (by decide), Int.toNat_natCast, show (1 : Int).toNat = 1 from rfl, Nat.and_one_is_mod]
  rcases Nat.mod_two_eq_zero_or_one (n >>> d) with h | h <;> rw [h] <;> rfl
theorem days_range {n k : Nat} (hn : n < 2 ^ k) (hk : k ≤ 16) : days n = (List.range k).filter fun d => n.testBit d := by
  unfold days
  have := range_filter (m := 0) (n := k) (fun d => n.testBit d) (fun i hi => Nat.testBit_lt_two_pow (Nat.lt_of_lt_of_le hn (Nat.pow_le_pow_right (by omega) hi))) (16 - k)
  rw [show k + (16 - k) = 16 by omega] at this
  exact this
/-- enumerate, by places -/
theorem enum_range (l : List Int) : enumL l = (List.range l.length).map fun d : Nat => (⟨(d : Int), lay ⟨⟨l⟩⟩ d⟩ : T2 Int Int) := by
  unfold enumL
  refine List.ext_getElem? fun i => ?_
  rw [List.getElem?_map, List.getElem?_map, List.getElem?_zipIdx]
  by_cases h : i < l.length
  · rw [List.getElem?_eq_getElem h, List.getElem?_range h]
    simp [lay, h]
  · rw [List.getElem?_eq_none (by omega), List.getElem?_eq_none (by simp; omega)]
    rfl
theorem enum_len (l : List Int) (h : l.length ≤ 16) : (enumL l).length ≤ sizeLine := by rw [enumL_len, sizeLine_eq]; omega
/-- the layers of the days of a set, by going through the layers -/
theorem g_at (l : List Int) (n : Nat) (hz : l.length ≤ 16) (hn : n < 2 ^ l.length) :
    Gv (compW (fun v : T2 Int Int => W.need (0 ≤ v.a) >>= fun _ => (pure (pyEq (Builtin.bitAnd ((n : Int) / 2 ^ v.a.toNat) 1) (1 : Int)) : W Bool)) (fun v => (pure v.b : W Int)) (enumL l)) ((days n).map (lay ⟨⟨l⟩⟩)) := by
  rw [enum_range]
  refine (Gv.comp (tb := fun v : T2 Int Int => n.testBit v.a.toNat) (eb := fun v : T2 Int Int => v.b) (fun v hv => ?_) (fun v hv _ => Gv.ret)).cast ?_
  · obtain ⟨d, hd, rfl⟩ := List.mem_map.mp hv
    exact Gv.need' (Int.natCast_nonneg _) (Gv.ret.cast (by rw [Int.toNat_natCast]; exact bit_test1 n d))
  · rw [days_range hn hz, List.filter_map, List.map_map]
    rfl
theorem nil_size {α : Type} : ([] : List α).length ≤ sizeLine := Nat.zero_le _
theorem g_l_keeps (l : List Int) (s : SN) (hz : l.length ≤ 16) (h : s.Ok l.length) : Gv (w_l_keeps ⟨l⟩ s.t3) (s.kept ⟨⟨l⟩⟩) := by
  unfold w_l_keeps
  simp only [pb, ba, sq_nx, sq_rt, sq_b, fR_rt, fR_b, fN_nx, fN_b, setW, retW, dropW]
  refine (g_sides s).bind (Gv.need' (enum_len _ hz) ((g_at l s.lo hz h.lo).bind (Gv.need' (enum_len _ hz) ((g_at l s.hi hz h.hi).bind (Gv.need' nil_size (Gv.need' ⟨by simp, by simp⟩ ?_))))))
  unfold SN.kept leastP
  generalize (days s.lo).map (lay ⟨⟨l⟩⟩) = L
  generalize (days s.hi).map (lay ⟨⟨l⟩⟩) = Hh
  rw [dtEq_bi]
  by_cases zH : Hh = []
  · subst zH
    rw [decide_eq_true (show (Bor.mk ([] : List Int)).l = (Bor.mk ([] : List Int)).l from rfl)]
    exact Gv.ret
  · rw [decide_eq_false (show ¬ (Bor.mk Hh).l = (Bor.mk ([] : List Int)).l from zH), minO_some zH, if_neg Bool.false_ne_true]
    simp only [pb, ba, sq_nx, sq_rt, sq_b, fR_rt, fR_b, fN_nx, fN_b, setW, retW, dropW]
    refine Gv.need' nil_size (Gv.need' ⟨by simp, by simp⟩ ?_)
    rw [dtEq_bi]
    by_cases zL : L = []
    · subst zL
      rw [decide_eq_true (show (Bor.mk ([] : List Int)).l = (Bor.mk ([] : List Int)).l from rfl)]
      simp only [Bool.not_true, Bool.false_eq_true, if_false]
      exact Gv.ret
    · rw [decide_eq_false (show ¬ (Bor.mk L).l = (Bor.mk ([] : List Int)).l from zL), minO_some zL]
      simp only [Bool.not_false, if_true]
      simp only [pb, ba, sq_nx, sq_rt, sq_b, fR_rt, fR_b, fN_nx, fN_b, setW, retW, dropW]
      refine Gv.need' zH (Gv.need' zL ?_)
      unfold SN.step
      show Gv ((if s.u = true then (pure 1 : W Int) else pure 0) >>= _) _
      cases s.u <;> exact Gv.ret
theorem g_l_first (l : List Int) (ss : List SN) (hz : l.length ≤ 16) (h : OkL l.length ss) : Gv (w_l_first ⟨l⟩ ⟨ss.map SN.t3⟩) (firstN ⟨⟨l⟩⟩ ss) := by
  unfold w_l_first
  simp only [pb, ba, sq_nx, sq_rt, sq_b, fR_rt, fR_b, fN_nx, fN_b, setW, retW, dropW]
  refine Gv.fR (Gv.bind (fst_loop ⟨⟨l⟩⟩ _ SN.t3 ss 0 fun j s e1 => ?f) ?_)
  case f =>
    refine (g_l_keeps l s hz (h s (List.mem_of_getElem? e1))).bind ?_
    cases s.kept ⟨⟨l⟩⟩ with
    | true => exact Gv.ret
    | false => exact Gv.ret
  · unfold firstN
    cases hq : ss.findIdx? fun r => !r.kept ⟨⟨l⟩⟩ with
    | none => exact Gv.ret
    | some j => exact Gv.ret.cast (by rw [Nat.zero_add]; rfl)
theorem g_said (ss : List SN) (hz : ss.length ≤ 100) (h : OkL 16 ss) : Gv (w_l_said ⟨ss.map SN.t3⟩) (ss.map SN.sy) := by
  unfold w_l_said
  simp only [pb, ba, sq_nx, sq_rt, sq_b, fR_rt, fR_b, fN_nx, fN_b, setW, retW, dropW]
  refine Gv.need' (by rw [List.length_map, sizeLine_eq]; omega) ?_
  have e : ∀ (ss : List SN), OkL 16 ss → Gv (compW (fun _ => (pure true : W Bool)) (fun v : T3 Int Int Bool => w_Saying__init v.a v.b v.c) (ss.map SN.t3)) (ss.map SN.sy) := fun ss => by
    induction ss with
    | nil => exact fun _ => Gv.ret
    | cons s ss ih => exact fun h => (g_saying s (h s List.mem_cons_self)).quiet.bind ((ih fun z hz => h z (List.mem_cons_of_mem _ hz)).bind Gv.ret)
  exact e ss h
end TW
set_option Elab.async false
set_option maxRecDepth 100000
set_option maxHeartbeats 1000000
set_option linter.all false
set_option autoImplicit false
/-! sets of days, normal days; marks; books -/
namespace TW
open Pa (rep)
open PaL (repL)
open PySem PySem.Spec PyProof.Rows L2 My
def setN (ds : List Nat) : Nat := ds.foldl (fun m d => m ||| 2 ^ d) 0
theorem setN_bit0 (i : Nat) : ∀ (ds : List Nat) (m : Nat), (ds.foldl (fun m d => m ||| 2 ^ d) m).testBit i = (m.testBit i || decide (i ∈ ds))
  | [], m => by simp
  | d :: ds, m => by
    rw [List.foldl_cons, setN_bit0 i ds, Nat.testBit_or, Nat.testBit_two_pow]
    by_cases h : d = i
    · subst h; simp
    · simp [h, Ne.symm h]
theorem setN_bit (ds : List Nat) (i : Nat) : (setN ds).testBit i = decide (i ∈ ds) := by
  unfold setN
  rw [setN_bit0, Nat.zero_testBit, Bool.false_or]
theorem or_bit (m d : Nat) : Builtin.bitOr (m : Int) (1 * 2 ^ ((d : Int)).toNat) = ((m ||| 2 ^ d : Nat) : Int) := by
  have e : (1 * 2 ^ ((d : Int)).toNat : Int) = ((2 ^ d : Nat) : Int) := by rw [Int.toNat_natCast]; simp
  rw [e, bitOr_nn (Int.natCast_nonneg _) (Int.natCast_nonneg _), Int.toNat_natCast, Int.toNat_natCast]
theorem g_set_of (ds : List Nat) (h : ∀ d ∈ ds, d < 16) : Gv (w_set_of ⟨ds.map Int.ofNat⟩) (setN ds : Int) := by
  unfold w_set_of
  simp only [pb, ba, sq_nx, sq_rt, sq_b, fR_rt, fR_b, fN_nx, fN_b, setW, retW, dropW]
  have e : ∀ (ds : List Nat) (m : Nat), (∀ d ∈ ds, d < 16) → Gv (forW (L := Empty) (fun (x : Int) (s : Int) => W.need (CPow 1 x) >>= fun _ => (pure (.nx (Builtin.bitOr s (1 * 2 ^ x.toNat))) : W (Res Int Int Int))) (ds.map Int.ofNat) (m : Int)) (.nx ((ds.foldl (fun m d => m ||| 2 ^ d) m : Nat) : Int)) := fun ds => by
    induction ds with
    | nil => exact fun m _ => Gv.ret
    | cons d ds ih =>
      intro m h
      have hd := h d List.mem_cons_self
      refine Gv.bind (a := .nx ((m ||| 2 ^ d : Nat) : Int)) (Gv.need' ⟨by show (0 : Int) ≤ (d : Int); omega, by show (d : Int) ≤ 1000000; omega, by decide⟩ (Gv.ret.cast (congrArg Res.nx (or_bit m d)))) ?_
      exact ih (m ||| 2 ^ d) fun x hx => h x (List.mem_cons_of_mem _ hx)
  exact Gv.fR ((e ds 0 h).bind Gv.ret)
def normals (o : Order) (n : Nat) : List Nat := (days n).filter fun d => decide (some (lay o d) = leastP o n)
theorem g_normal (o : Order) (n : Nat) (hl : nDays o ≤ 16) (hn : n < 2 ^ nDays o) : Gv (w_Order_normal o n) (setN (normals o n) : Int) := by
  unfold w_Order_normal
  simp only [pb, ba, sq_nx, sq_rt, sq_b, fR_rt, fR_b, fN_nx, fN_b, setW, retW, dropW]
  refine (g_least o n hl hn).bind ((g_days_in n (Nat.lt_of_lt_of_le hn (Nat.pow_le_pow_right (by omega) hl))).bind (Gv.need' ?_ ?_))
  · show (daysI n).length ≤ sizeLine
    unfold daysI
    have := days_len n
    rw [List.length_map, sizeLine_eq]
    omega
  · refine Gv.bind (Gv.comp (tb := fun v : Int => decide (some (lay o v.toNat) = leastP o n)) (eb := fun v => v) (fun v hv => ?_) fun v _ _ => Gv.ret) ?_
    · have hd : v ∈ daysI n := hv
      unfold daysI at hd
      obtain ⟨e, he, rfl⟩ := List.mem_map.mp hd
      refine (Gv.get (at_lay o e (days_lt hn he))).bind (Gv.ret.cast ?_)
      rw [pyEq_io]
      rfl
    · have e : ((daysI n).filter fun v : Int => decide (some (lay o v.toNat) = leastP o n)).map (fun v => v) = (normals o n).map Int.ofNat := by
        unfold daysI normals
        rw [List.map_id'', List.filter_map]
        · rfl
        · intro x; rfl
      show Gv (w_set_of ⟨((daysI n).filter fun v : Int => decide (some (lay o v.toNat) = leastP o n)).map (fun v => v)⟩ >>= _) _
      rw [e]
      refine (g_set_of _ fun d hd => ?_).bind Gv.ret
      exact (mem_days.mp (List.mem_filter.mp hd).1).1
/-- usually: by the normal days -/
theorem normal_kept (o : Order) (s : SN) (hl : nDays o ≤ 16) (h : s.Ok (nDays o)) (hu : s.u = true) : pyEq (Builtin.bitAnd (setN (normals o s.w) : Int) (Builtin.bitNot (s.t : Int))) (0 : Int) = s.kept o := by
  have e := (SN.mk (setN (normals o s.w)) s.t true).b_eq
  have e : Builtin.bitAnd (setN (normals o s.w) : Int) (Builtin.bitNot (s.t : Int)) = ((SN.mk (setN (normals o s.w)) s.t true).b : Int) := e
  have h16 : s.w < 2 ^ 16 := Nat.lt_of_lt_of_le h.w (Nat.pow_le_pow_right (by omega) hl)
  have hw := days_ne h.p h16 (Nat.le_refl _)
  have hmem : ∀ d, d ∈ normals o s.w ↔ d ∈ days s.w ∧ some (lay o d) = leastP o s.w := fun d => by unfold normals; simp
  have hz : (SN.mk (setN (normals o s.w)) s.t true).b = 0 ↔ ∀ d ∈ normals o s.w, s.t.testBit d = true := by
    constructor
    · intro z d hd
      have hb := (SN.mk (setN (normals o s.w)) s.t true).b_bit d
      rw [z, Nat.zero_testBit] at hb
      have hb : false = ((setN (normals o s.w)).testBit d && !s.t.testBit d) := hb
      rw [setN_bit, decide_eq_true hd] at hb
      simpa using hb.symm
    · intro z
      refine Nat.eq_of_testBit_eq fun i => ?_
      rw [SN.b_bit, Nat.zero_testBit]
      show ((setN (normals o s.w)).testBit i && !s.t.testBit i) = false
      rw [setN_bit]
      by_cases hi : i ∈ normals o s.w
      · rw [z i hi]; simp
      · rw [decide_eq_false hi]; rfl
  have hlo : s.lo = s.c := by unfold SN.lo; rw [hu]; rfl
  have hhi : s.hi = s.b := by unfold SN.hi; rw [hu]; rfl
  have hst : s.step = 1 := by unfold SN.step; rw [hu]; rfl
  obtain ⟨x, hx⟩ := Option.ne_none_iff_exists'.mp fun z => hw ((least_none (o := o)).mp z)
  obtain ⟨⟨d0, hd0, hx0⟩, hmin⟩ := least_some.mp hx
  rw [e, pyEq_ii, Bool.eq_iff_iff, decide_eq_true_iff, kept_iff, hlo, hhi, hst]
  have hcast : ((SN.mk (setN (normals o s.w)) s.t true).b : Int) = 0 ↔ (SN.mk (setN (normals o s.w)) s.t true).b = 0 := by omega
  rw [hcast, hz]
  constructor
  · intro z y hy
    obtain ⟨hy1, hy2⟩ := mem_days.mp hy
    rw [s.b_bit, Bool.and_eq_true, Bool.not_eq_true'] at hy2
    have hyw : y ∈ days s.w := mem_days.mpr ⟨hy1, hy2.1⟩
    have hn0 : d0 ∈ normals o s.w := (hmem d0).mpr ⟨hd0, by rw [hx, hx0]⟩
    refine ⟨d0, mem_days.mpr ⟨(mem_days.mp hd0).1, ?_⟩, ?_⟩
    · rw [s.c_bit, (mem_days.mp hd0).2, z d0 hn0]; rfl
    · have h1 := hmin y hyw
      have h2 : lay o y ≠ x := fun q => by
        have := z y ((hmem y).mpr ⟨hyw, by rw [hx, q]⟩)
        rw [hy2.2] at this
        cases this
      omega
  · intro z d hd
    obtain ⟨hdw, hdl⟩ := (hmem d).mp hd
    cases ht : s.t.testBit d with
    | true => rfl
    | false =>
      obtain ⟨l, hl1, hl2⟩ := z d (mem_days.mpr ⟨(mem_days.mp hdw).1, by rw [s.b_bit, (mem_days.mp hdw).2, ht]; rfl⟩)
      have hlw : l ∈ days s.w := mem_days.mpr ⟨(mem_days.mp hl1).1, by have := (mem_days.mp hl1).2; rw [s.c_bit, Bool.and_eq_true] at this; exact this.1⟩
      have := hmin l hlw
      rw [hx] at hdl
      have := Option.some.inj hdl
      omega
/-! ### marks and books -/
theorem inF_ss (a : Str) (l : List Str) : inF a l = decide (a ∈ l) := by
  induction l with
  | nil => rfl
  | cons b l ih =>
    show (eqV (.str b) (.str a) || inF a l) = _
    rw [ih]
    show ((b == a) || _) = _
    by_cases h : a = b
    · subst h; simp
    · simp [h, Ne.symm h]
theorem cut_take {α : Type} (xs : List α) (i : Nat) : cutL xs none (some (i : Int)) = xs.take i := by
  unfold cutL
  rw [HT.sIx_none, HT.sIx_nat, List.drop_zero, Nat.sub_zero]
  by_cases h : i ≤ xs.length
  · rw [Nat.min_eq_left h]
  · rw [Nat.min_eq_right (by omega), List.take_length, List.take_of_length_le (by omega)]
def names4 : List Str := ["a", "b", "c", "d"]
theorem g_fault (s : Str) (h : s ∈ names4) : Gv (w_name_fault s) none := by
  have e1 : ∀ s ∈ names4, s.length = 1 := by decide
  have e2 : ∀ s ∈ names4, chrs s = [s] := by decide
  have e3 : ∀ s ∈ names4, (!decide (s.cps.toList < ("a" : Str).cps.toList)) = true ∧ (!decide (("z" : Str).cps.toList < s.cps.toList)) = true := by decide
  have e4 : ∀ s ∈ names4, s ∉ c_KEPT_WORDS.l := by decide
  unfold w_name_fault
  simp only [pb, ba, sq_nx, sq_rt, sq_b, sq_i, sq_f, fR_rt, fR_b, fR_i, fR_f, fN_nx, fN_b, fN_i, fN_f, fI_nx, fI_b, fI_i, fI_f, i_b, f_b, if_true, if_false, Bool.false_eq_true, Bool.not_true, Bool.not_false, setW, retW, dropW, ifW, reduceIte]
  refine Gv.need' (by rw [e1 s h, sizeLine_eq]; omega) ?_
  rw [e1 s h]
  refine Gv.need' (by rw [e2 s h, sizeLine_eq]; exact Nat.le_of_ble_eq_true rfl) (Gv.bind (Gv.all (eb := fun _ => true) fun x hx => ?_) ?_)
  · rw [e2 s h] at hx
    rw [List.mem_singleton.mp hx, (e3 s h).1, (e3 s h).2]
    exact Gv.ret
  · rw [e2 s h, inF_ss, decide_eq_false (e4 s h)]
    exact Gv.ret
theorem g_check_names (ns : List Str) (h : 1 ≤ ns.length ∧ ns.length ≤ 4) (hf : ∀ s ∈ ns, Gv (w_name_fault s) none) (ht : ns.Nodup) : Gv (w_check_names ⟨ns⟩) () := by
  unfold w_check_names
  simp only [pb, ba, sq_nx, sq_rt, sq_b, sq_i, sq_f, fR_rt, fR_b, fR_i, fR_f, fN_nx, fN_b, fN_i, fN_f, fI_nx, fI_b, fI_i, fI_f, i_b, f_b, if_true, if_false, Bool.false_eq_true, Bool.not_true, Bool.not_false, setW, retW, dropW, ifW, reduceIte]
  rw [decide_eq_true (show (1 : Int) ≤ ((ns.length : Nat) : Int) by omega), decide_eq_true (show ((ns.length : Nat) : Int) ≤ 4 by omega)]
  simp only [pb, ba, sq_nx, sq_rt, sq_b, sq_i, sq_f, fR_rt, fR_b, fR_i, fR_f, fN_nx, fN_b, fN_i, fN_f, fI_nx, fI_b, fI_i, fI_f, i_b, f_b, if_true, if_false, Bool.false_eq_true, Bool.not_true, Bool.not_false, setW, retW, dropW, ifW, reduceIte]
  refine Gv.fN (s := ()) (Gv.seq (s := ()) (Gv.for (g := fun s _ => s) fun x u hx => ?_) Gv.ret)
  obtain ⟨i, hi⟩ := List.mem_iff_getElem?.mp hx
  obtain ⟨h1, h2⟩ := enumL_get hi
  refine (hf x.b (List.mem_of_getElem? h2)).bind ?_
  obtain ⟨hlt, e⟩ := List.getElem?_eq_some_iff.mp h2
  have e : x.b ∉ ns.take i := fun z => by
    obtain ⟨j, hj, e2⟩ := List.mem_iff_getElem.mp z
    rw [List.length_take] at hj
    rw [List.getElem_take] at e2
    have i1 := List.Nodup.idxOf_getElem ht i hlt
    have i2 := List.Nodup.idxOf_getElem ht j (by omega)
    rw [e] at i1
    rw [e2] at i2
    omega
  rw [h1, cut_take, inF_ss, decide_eq_false e]
  exact Gv.ret
theorem g_marks (ns : List Str) (h : 1 ≤ ns.length ∧ ns.length ≤ 4) (hf : ∀ s ∈ ns, Gv (w_name_fault s) none) (ht : ns.Nodup) :
    Gv (w_Marks__init ⟨ns⟩) ⟨⟨ns⟩, ns.length, 1 * 2 ^ ns.length, 1 * 2 ^ (1 * 2 ^ ns.length) - 1⟩ := by
  unfold w_Marks__init wb_Marks__init
  simp only [pb, ba, sq_nx, sq_rt, sq_b, sq_i, sq_f, fR_rt, fR_b, fR_i, fR_f, fN_nx, fN_b, fN_i, fN_f, fI_nx, fI_b, fI_i, fI_f, i_b, f_b, if_true, if_false, Bool.false_eq_true, Bool.not_true, Bool.not_false, setW, retW, dropW, ifW, reduceIte]
  refine Gv.bind (a := ()) (g_check_names ns h hf ht) ?_
  have e : (1 : Int) * 2 ^ (((ns.length : Nat) : Int)).toNat = ((1 * 2 ^ ns.length : Nat) : Int) := by rw [Int.toNat_natCast]; simp
  have hp : 1 * 2 ^ ns.length ≤ 16 := by
    have := Nat.pow_le_pow_right (show 0 < 2 by omega) h.2
    omega
  refine Gv.need' ⟨by omega, by omega, by decide⟩ ?_
  rw [e]
  refine Gv.need' ⟨by omega, by omega, by decide⟩ (Gv.ret.cast ?_)
  rw [Int.toNat_natCast]
  simp
/-- how many days there may be -/
def Dc (n : Nat) : Prop := n = 2 ∨ n = 4 ∨ n = 8 ∨ n = 16
theorem Dc.le {n : Nat} (h : Dc n) : n ≤ 16 := by rcases h with h | h | h | h <;> omega
theorem Dc.pos {n : Nat} (h : Dc n) : 0 < n := by rcases h with h | h | h | h <;> omega
theorem g_l_marks (n : Nat) (h : Dc n) : ∃ ns k d, Gv (w_l_marks n) ⟨ns, k, d, ((2 ^ n - 1 : Nat) : Int)⟩ := by
  have key : ∀ k : Nat, k < 4 → n = 2 ^ (k + 1) → Gv (w_l_marks n) ⟨⟨names4.take (k + 1)⟩, ((names4.take (k + 1)).length : Int), 1 * 2 ^ (names4.take (k + 1)).length, 1 * 2 ^ (1 * 2 ^ (names4.take (k + 1)).length) - 1⟩ := fun k hk e => by
    unfold w_l_marks
    simp only [pb, ba, sq_nx, sq_rt, sq_b, fR_rt, fR_b, fN_nx, fN_b, setW, retW, dropW]
    have hm : ((n : Nat) : Int) ∈ ([2, 4, 8, 16] : List Int) := by rcases h with h | h | h | h <;> subst h <;> decide
    have hi : (([2, 4, 8, 16] : List Int).idxOf ((n : Nat) : Int) : Int) + 1 = ((k + 1 : Nat) : Int) := by
      rcases k with _ | _ | _ | _ | k
      · subst e; decide
      · subst e; decide
      · subst e; decide
      · subst e; decide
      · omega
    refine Gv.need' (by decide) (Gv.need' (by decide) (Gv.need' hm ?_))
    rw [hi, cut_take]
    refine (g_marks (names4.take (k + 1)) ?_ (fun s hs => g_fault s (List.mem_of_mem_take hs)) ?_).bind Gv.ret
    · rw [List.length_take]
      show 1 ≤ min (k + 1) 4 ∧ min (k + 1) 4 ≤ 4
      omega
    · exact (List.take_sublist _ _).nodup (by decide)
  rcases h with h | h | h | h
  · exact ⟨_, _, _, (key 0 (by omega) h).cast (by subst h; rfl)⟩
  · exact ⟨_, _, _, (key 1 (by omega) h).cast (by subst h; rfl)⟩
  · exact ⟨_, _, _, (key 2 (by omega) h).cast (by subst h; rfl)⟩
  · exact ⟨_, _, _, (key 3 (by omega) h).cast (by subst h; rfl)⟩
theorem g_book (m : Marks) (n : Nat) (ss : List SN) (hm : m.all_days = ((2 ^ n - 1 : Nat) : Int)) (hz : ss.length ≤ 12) (h : OkL n ss) : Gv (w_Book__init m ⟨ss.map SN.sy⟩) ⟨m, ⟨ss.map SN.sy⟩⟩ := by
  unfold w_Book__init wb_Book__init
  simp only [pb, ba, sq_nx, sq_rt, sq_b, sq_i, sq_f, fR_rt, fR_b, fR_i, fR_f, fN_nx, fN_b, fN_i, fN_f, fI_nx, fI_b, fI_i, fI_f, i_b, f_b, if_true, if_false, Bool.false_eq_true, Bool.not_true, Bool.not_false, setW, retW, dropW, ifW, reduceIte]
  refine Gv.bind (a := ()) ?_ Gv.ret
  unfold w_check_book
  simp only [pb, ba, sq_nx, sq_rt, sq_b, sq_i, sq_f, fR_rt, fR_b, fR_i, fR_f, fN_nx, fN_b, fN_i, fN_f, fI_nx, fI_b, fI_i, fI_f, i_b, f_b, if_true, if_false, Bool.false_eq_true, Bool.not_true, Bool.not_false, setW, retW, dropW, ifW, reduceIte]
  rw [decide_eq_false (show ¬ (12 : Int) < (((ss.map SN.sy).length : Nat) : Int) by rw [List.length_map]; omega)]
  simp only [pb, ba, sq_nx, sq_rt, sq_b, sq_i, sq_f, fR_rt, fR_b, fR_i, fR_f, fN_nx, fN_b, fN_i, fN_f, fI_nx, fI_b, fI_i, fI_f, i_b, f_b, if_true, if_false, Bool.false_eq_true, Bool.not_true, Bool.not_false, setW, retW, dropW, ifW, reduceIte]
  refine Gv.fN (s := ()) (Gv.seq (s := ()) (Gv.for (g := fun s _ => s) fun x u hx => ?_) Gv.ret)
  obtain ⟨i, hi⟩ := List.mem_iff_getElem?.mp hx
  obtain ⟨_, hi2⟩ := enumL_get hi
  obtain ⟨s, hs, e⟩ := List.mem_map.mp (List.mem_of_getElem? hi2)
  rw [← e]
  unfold w_has_days
  simp only [pb, ba, sq_nx, sq_rt, sq_b, sq_i, sq_f, fR_rt, fR_b, fR_i, fR_f, fN_nx, fN_b, fN_i, fN_f, fI_nx, fI_b, fI_i, fI_f, i_b, f_b, if_true, if_false, Bool.false_eq_true, Bool.not_true, Bool.not_false, setW, retW, dropW, ifW, reduceIte]
  show Gv (w_within (Builtin.bitOr (s.w : Int) (s.t : Int)) m.all_days >>= _) _
  rw [s.or_eq, e_within, hm, bitAnd_not, bitAnd_pp (Int.natCast_nonneg _) (Int.natCast_nonneg _), Int.toNat_natCast, Int.toNat_natCast, Nat.and_two_pow_sub_one_of_lt_two_pow (h s hs).wt, Int.sub_self, pyEq_ii]
  exact Gv.ret
theorem g_flag (a b : Bool) : Gv (w_l_flag a b) (decide (a = b)) := by
  unfold w_l_flag
  simp only [pb, ba, sq_nx, sq_rt, sq_b, sq_i, sq_f, fR_rt, fR_b, fR_i, fR_f, fN_nx, fN_b, fN_i, fN_f, fI_nx, fI_b, fI_i, fI_f, i_b, f_b, if_true, if_false, Bool.false_eq_true, Bool.not_true, Bool.not_false, setW, retW, dropW, ifW, reduceIte]
  cases a <;> cases b <;> exact Gv.ret
end TW
set_option Elab.async false
set_option maxRecDepth 100000
set_option maxHeartbeats 1000000
set_option linter.all false
set_option autoImplicit false
/-! what the law draws: layers, sayings -/
namespace TW
open Pa (rep)
open PaL (repL)
open PySem PySem.Spec PyProof.Rows L2 My
theorem r_of (b : Bag) (l : List Int) (h : l ≠ []) (hz : l.length ≤ 100) : Rn (w_l_of b ⟨l⟩) fun x => x ∈ l := by
  have hp : 0 < l.length := List.length_pos_iff.mpr h
  unfold w_l_of
  simp only [pb, ba, sq_nx, sq_rt, sq_b, fR_rt, fR_b, fN_nx, fN_b, setW, retW, dropW]
  refine (r_take b _ (by omega) (big8000 (by omega))).bind fun r ⟨h0, h1⟩ => ?_
  obtain ⟨j, rfl⟩ := Int.eq_ofNat_of_zero_le h0
  have hj : j < l.length := by omega
  exact (Gv.get (atI_nat (List.getElem?_eq_getElem hj))).bindR (Rn.ret (List.getElem_mem hj))
theorem r_of3 (b : Bag) (l : List (T3 Int Int Bool)) (h : l ≠ []) (hz : l.length ≤ 100) : Rn (w_l_of_BagR3iib b ⟨l⟩) fun x => x ∈ l := by
  have hp : 0 < l.length := List.length_pos_iff.mpr h
  unfold w_l_of_BagR3iib
  simp only [pb, ba, sq_nx, sq_rt, sq_b, fR_rt, fR_b, fN_nx, fN_b, setW, retW, dropW]
  refine (r_take b _ (by omega) (big8000 (by omega))).bind fun r ⟨h0, h1⟩ => ?_
  obtain ⟨j, rfl⟩ := Int.eq_ofNat_of_zero_le h0
  have hj : j < l.length := by omega
  exact (Gv.get (atI_nat (List.getElem?_eq_getElem hj))).bindR (Rn.ret (List.getElem_mem hj))
theorem r_layers (b : Bag) (n : Nat) (h : Dc n) : Rn (w_l_layers b n) fun l => l.length = n ∧ Lay l := by
  unfold w_l_layers
  simp only [pb, ba, sq_nx, sq_rt, sq_b, fR_rt, fR_b, fN_nx, fN_b, setW, retW, dropW]
  have hn := h.le
  have hp := h.pos
  refine Rn.need (by rw [sizeLine_eq]; exact Nat.le_of_ble_eq_true rfl) ((r_of b _ (by simp) (by simp)).bind fun top ht => ?_)
  have ht : 1 ≤ top ∧ top ≤ 3 := by
    simp only [List.mem_cons, List.not_mem_nil, or_false] at ht
    omega
  refine Rn.need ⟨by omega, by omega⟩ (Rn.need (by unfold rngL; rw [List.length_map, List.length_range, Int.toNat_natCast, sizeLine_eq]; omega) ?_)
  refine (Rn.all (T := fun x => 0 ≤ x ∧ x ≤ 3) fun x _ => (r_take b _ (by omega) (big8000 (by omega))).mono fun r hr => by omega).bind fun l1 ⟨hl1, hb1⟩ => ?_
  have hl1 : l1.length = n := by rw [hl1]; unfold rngL; simp
  have ne : l1 ≠ [] := fun z => by rw [z] at hl1; simp at hl1; omega
  refine Rn.need ne (Rn.need (by rw [sizeLine_eq]; omega) ?_)
  refine Gv.bindR (Gv.all (eb := fun v => v - minL l1) fun v _ => Gv.ret) ?_
  have hm := hb1 _ (minL_mem ne)
  have hl2 : (l1.map fun v => v - minL l1).length = n := by rw [List.length_map, hl1]
  have hb2 : ∀ x ∈ l1.map fun v => v - minL l1, 0 ≤ x ∧ x ≤ 3 := fun x hx => by
    obtain ⟨v, hv, rfl⟩ := List.mem_map.mp hx
    have h1 := minL_le hv
    have h2 := hb1 v hv
    omega
  have hz2 : (0 : Int) ∈ l1.map fun v => v - minL l1 := List.mem_map.mpr ⟨minL l1, minL_mem ne, by omega⟩
  generalize (l1.map fun v => v - minL l1) = l2 at hl2 hb2 hz2
  have hlen : l2.length = 2 ∨ l2.length = 4 ∨ l2.length = 8 ∨ l2.length = 16 := by rw [hl2]; exact h
  refine (r_take b 3 (by omega) (big8000 (by decide))).bind fun r3 h3 => ?_
  by_cases hr : 0 < r3
  · rw [decide_eq_true hr, if_pos rfl]
    simp only [pb, ba, sq_nx, sq_rt, sq_b, fR_rt, fR_b, fN_nx, fN_b, setW, retW, dropW]
    exact Rn.ret ⟨hl2, hlen, fun x hx => by have := hb2 x hx; omega, hz2⟩
  rw [decide_eq_false hr, if_neg Bool.false_ne_true]
  simp only [pb, ba, sq_nx, sq_rt, sq_b, fR_rt, fR_b, fN_nx, fN_b, setW, retW, dropW]
  have p6 : (10 : Int) ^ (6 : Int).toNat = 1000000 := by decide
  have p30 : (10 : Int) ^ (30 : Int).toNat = 1000000000000000000000000000000 := by decide
  rw [p6, p30]
  refine Rn.need ⟨by decide, by decide, by decide⟩ ((r_take b _ (by omega) (big8000 (by decide))).bind fun v ⟨hv0, hv1⟩ => ?_)
  refine Rn.need ⟨by decide, by decide, by decide⟩ ((r_take b _ (by omega) (big8000 (by decide))).bind fun u ⟨hu0, hu1⟩ => ?_)
  refine Rn.need ⟨by decide, by decide, by decide⟩ (Rn.need (by rw [sizeLine_eq]; exact Nat.le_of_ble_eq_true rfl) ((r_of b _ (by simp) (by simp)).bind fun q hq => ?_))
  have hq : 0 ≤ q ∧ q ≤ 1000000000000000000000000000000 := by
    simp only [List.mem_cons, List.not_mem_nil, or_false] at hq
    omega
  refine Rn.need (by rw [sizeLine_eq]; exact Nat.le_of_ble_eq_true rfl) (Rn.need (by rw [sizeLine_eq]; omega) ?_)
  refine Gv.bindR (Gv.all (eb := fun x => if x = 0 then 0 else if x = 1 then 1 + v else if x = 2 then 1 + v + 1 + u else q) fun x hx => ?_) (Rn.ret ⟨?_, ?_, ?_, ?_⟩)
  · have := hb2 x hx
    refine Gv.get ?_
    rcases (show x = 0 ∨ x = 1 ∨ x = 2 ∨ x = 3 by omega) with h | h | h | h <;> subst h <;> rfl
  · rw [List.length_map, hl2]
  · rw [List.length_map]; exact hlen
  · intro x hx
    obtain ⟨y, hy, rfl⟩ := List.mem_map.mp hx
    split
    · omega
    · split
      · omega
      · split
        · omega
        · exact hq
  · exact List.mem_map.mpr ⟨0, hz2, rfl⟩
/-! ### sayings -/
theorem pow_pos2 (n : Nat) (h : n ≤ 16) : 2 ^ n ≤ 2 ^ 16 := Nat.pow_le_pow_right (by omega) h
theorem shl_eq (n : Nat) : (1 : Int) * 2 ^ ((n : Int)).toNat = ((2 ^ n : Nat) : Int) := by rw [Int.toNat_natCast]; simp
theorem two_le {n : Nat} (h : 1 ≤ n) : 2 ≤ 2 ^ n := Nat.pow_le_pow_right (show 0 < 2 by omega) h
theorem cpow1 (n : Nat) (h : n ≤ 16) : CPow 1 (n : Int) := ⟨by omega, by omega, by decide⟩
theorem r_any (b : Bag) (n : Nat) (h : Dc n) : Rn (w_l_any b n) fun x => ∃ s : SN, x = s.t3 ∧ s.Ok n := by
  have hn := h.le
  have hp := two_le h.pos
  have hq := pow_pos2 n hn
  unfold w_l_any
  simp only [pb, ba, sq_nx, sq_rt, sq_b, fR_rt, fR_b, fN_nx, fN_b, setW, retW, dropW]
  rw [shl_eq]
  refine Rn.need (cpow1 n hn) ((r_take b _ (by omega) (big8000 (by omega))).bind fun w ⟨hw0, hw1⟩ => (r_take b _ (by omega) (big8000 (by omega))).bind fun t ⟨ht0, ht1⟩ => (r_take b _ (by omega) (big8000 (by decide))).bind fun u _ => Rn.ret ?_)
  refine ⟨⟨(1 + w).toNat, t.toNat, decide (0 < u)⟩, ?_, by show 0 < (1 + w).toNat; omega, by show (1 + w).toNat < 2 ^ n; omega, by show t.toNat < 2 ^ n; omega⟩
  show T3.mk (1 + w) t _ = T3.mk (((1 + w).toNat : Nat) : Int) ((t.toNat : Nat) : Int) _
  rw [Int.toNat_of_nonneg (by omega), Int.toNat_of_nonneg ht0]
/-- a sum of different powers -/
theorem sum_pow (p : Nat → Bool) (n : Nat) : ∃ m : Nat, (((List.range n).filter p).map fun d : Nat => ((2 ^ d : Nat) : Int)).sum = (m : Int) ∧ m < 2 ^ n ∧ ((∃ d < n, p d = true) → 0 < m) := by
  induction n with
  | zero => exact ⟨0, rfl, by decide, fun ⟨d, h, _⟩ => absurd h (Nat.not_lt_zero d)⟩
  | succ n ih =>
    obtain ⟨m, e, h1, h2⟩ := ih
    have hp : 2 ^ (n + 1) = 2 * 2 ^ n := by rw [Nat.pow_succ, Nat.mul_comm]
    have pos : 0 < 2 ^ n := Nat.pow_pos (by decide)
    rw [List.range_succ, List.filter_append, List.map_append, List.sum_append, e]
    cases hpn : p n with
    | true =>
      refine ⟨m + 2 ^ n, ?_, by omega, fun _ => by omega⟩
      rw [List.filter_cons, hpn]
      simp
    | false =>
      refine ⟨m, ?_, by omega, fun ⟨d, hd, hpd⟩ => h2 ⟨d, ?_, hpd⟩⟩
      · rw [List.filter_cons, hpn]
        simp
      · rcases Nat.lt_or_ge d n with z | z
        · exact z
        · have : d = n := by omega
          rw [this, hpn] at hpd
          cases hpd
end TW
set_option Elab.async false
set_option maxRecDepth 100000
set_option maxHeartbeats 1000000
set_option linter.all false
set_option autoImplicit false
/-! a saying that is kept, as drawn -/
namespace TW
open Pa (rep)
open PaL (repL)
open PySem PySem.Spec PyProof.Rows L2 My
/-- the days of w of least layer -/
theorem min_lay (l : List Int) (w n : Nat) (hn : l.length ≤ 16) (hw : w < 2 ^ l.length) (hp : 0 < w) : (days w).map (lay ⟨⟨l⟩⟩) ≠ [] := by
  have := days_ne hp hw hn
  simpa using this
theorem bitOr_nat (a b : Nat) : Builtin.bitOr (a : Int) (b : Int) = ((a ||| b : Nat) : Int) := by rw [bitOr_nn (Int.natCast_nonneg _) (Int.natCast_nonneg _), Int.toNat_natCast, Int.toNat_natCast]
theorem bitAnd_nat (a b : Nat) : Builtin.bitAnd (a : Int) (b : Int) = ((a &&& b : Nat) : Int) := by rw [bitAnd_pp (Int.natCast_nonneg _) (Int.natCast_nonneg _), Int.toNat_natCast, Int.toNat_natCast]
theorem bitAnd_notnat (a b : Nat) : Builtin.bitAnd (a : Int) (Builtin.bitNot (b : Int)) = (((SN.mk a b true).b : Nat) : Int) := (SN.mk a b true).b_eq
theorem kept_of {o : Order} {s : SN} {x : Int} {d : Nat} (hx : ∀ e ∈ days s.w, x ≤ lay o e) (hd : d ∈ days s.w) (hdx : lay o d = x) (hu : s.u = true → (∀ e ∈ days s.w, lay o e = x → s.t.testBit e = true)) (hv : s.u = false → s.t.testBit d = false) : s.kept o = true := by
  obtain ⟨hd1, hd2⟩ := mem_days.mp hd
  rw [kept_iff]
  intro h hh
  cases u : s.u with
  | true =>
    have hlo : s.lo = s.c := by unfold SN.lo; rw [u]; rfl
    have hhi : s.hi = s.b := by unfold SN.hi; rw [u]; rfl
    have hst : s.step = 1 := by unfold SN.step; rw [u]; rfl
    rw [hhi] at hh
    obtain ⟨h1, h2⟩ := mem_days.mp hh
    rw [s.b_bit, Bool.and_eq_true, Bool.not_eq_true'] at h2
    have hw : h ∈ days s.w := mem_days.mpr ⟨h1, h2.1⟩
    refine ⟨d, ?_, ?_⟩
    · rw [hlo]
      exact mem_days.mpr ⟨hd1, by rw [s.c_bit, hd2, hu u d hd hdx]; rfl⟩
    · have a := hx h hw
      have b : lay o h ≠ x := fun z => by
        have := hu u h hw z
        rw [h2.2] at this
        cases this
      omega
  | false =>
    have hlo : s.lo = s.b := by unfold SN.lo; rw [u]; rfl
    have hhi : s.hi = s.c := by unfold SN.hi; rw [u]; rfl
    have hst : s.step = 0 := by unfold SN.step; rw [u]; rfl
    rw [hhi] at hh
    obtain ⟨h1, h2⟩ := mem_days.mp hh
    rw [s.c_bit, Bool.and_eq_true] at h2
    have a := hx h (mem_days.mpr ⟨h1, h2.1⟩)
    refine ⟨d, ?_, by omega⟩
    rw [hlo]
    exact mem_days.mpr ⟨hd1, by rw [s.b_bit, hd2, hv u]; rfl⟩
theorem or_all (ds : List Nat) (h : ∀ d ∈ ds, d < 16) : ∀ m : Nat, Gv (forW (L := Empty) (fun (x : Int) (s : Int) => W.need (CPow 1 x) >>= fun _ => (pure (.nx (Builtin.bitOr s (1 * 2 ^ x.toNat))) : W (Res Int (T3 Int Int Bool) Int))) (ds.map Int.ofNat) (m : Int)) (.nx ((ds.foldl (fun m d => m ||| 2 ^ d) m : Nat) : Int)) := by
  induction ds with
  | nil => exact fun m => Gv.ret
  | cons d ds ih =>
    intro m
    have hd := h d List.mem_cons_self
    refine Gv.bind (a := .nx ((m ||| 2 ^ d : Nat) : Int)) (Gv.need' ⟨by show (0 : Int) ≤ (d : Int); omega, by show (d : Int) ≤ 1000000; omega, by decide⟩ (Gv.ret.cast (congrArg Res.nx (or_bit m d)))) ?_
    exact ih (fun x hx => h x (List.mem_cons_of_mem _ hx)) (m ||| 2 ^ d)
theorem or_all_lt (n : Nat) : ∀ (ds : List Nat) (m : Nat), (∀ d ∈ ds, d < n) → m < 2 ^ n → ds.foldl (fun m d => m ||| 2 ^ d) m < 2 ^ n
  | [], m, _, h => h
  | d :: ds, m, hd, h => or_all_lt n ds _ (fun x hx => hd x (List.mem_cons_of_mem _ hx)) (Nat.or_lt_two_pow h (Nat.pow_lt_pow_right (by decide) (hd d List.mem_cons_self)))
theorem r_toward (b : Bag) (l : List Int) (h : Lay l) : Rn (w_l_toward b ⟨l⟩) fun x => ∃ s : SN, x = s.t3 ∧ s.Ok l.length ∧ s.kept ⟨⟨l⟩⟩ = true := by
  have hz := h.le
  have hDc : Dc l.length := h.n
  have hp := two_le hDc.pos
  have hq := pow_pos2 _ hz
  have hne : l ≠ [] := fun z => by have := h.z; rw [z] at this; cases this
  unfold w_l_toward
  simp only [pb, ba, sq_nx, sq_rt, sq_b, fR_rt, fR_b, fN_nx, fN_b, setW, retW, dropW]
  show Rn (W.need (CPow 1 ((l.length : Nat) : Int)) >>= _) _
  rw [shl_eq]
  refine Rn.need (cpow1 _ hz) ((r_take b _ (by omega) (big8000 (by omega))).bind fun w1 ⟨hw0, hw1⟩ => ?_)
  refine (r_take b 3 (by omega) (big8000 (by decide))).bind fun r3 _ => Rn.fR (Rn.seq (T := fun v : Int => ∃ w : Nat, v = (w : Int) ∧ 0 < w ∧ w < 2 ^ l.length) ?_ ?_)
  · refine Rn.ite (fun _ => ?_) (fun _ => Rn.ret ⟨_, rfl, (1 + w1).toNat, by omega, by omega, by omega⟩)
    refine (r_of b l hne (by omega)).bind fun base hb => Rn.need (enum_len l hz) ?_
    refine Gv.bindR (Gv.comp (tb := fun v : T2 Int Int => decide (base ≤ v.b)) (eb := fun v : T2 Int Int => (1 * 2 ^ v.a.toNat : Int)) (fun v _ => Gv.ret) fun v hv _ => ?_) ?_
    · rw [enum_range] at hv
      obtain ⟨d, hd, rfl⟩ := List.mem_map.mp hv
      have := List.mem_range.mp hd
      exact Gv.need' (cpow1 d (by omega)) Gv.ret
    · obtain ⟨m, e, m1, m2⟩ := sum_pow (fun d => decide (base ≤ lay ⟨⟨l⟩⟩ d)) l.length
      refine Rn.ret ⟨_, rfl, m, ?_, m2 ?_, m1⟩
      · rw [← e, enum_range, List.filter_map, List.map_map]
        refine congrArg List.sum (List.map_congr_left fun d _ => ?_)
        exact shl_eq d
      · obtain ⟨d, hd, e⟩ := List.mem_iff_getElem.mp hb
        refine ⟨d, hd, ?_⟩
        have e2 : lay ⟨⟨l⟩⟩ d = base := by unfold lay; simp [hd, e]
        rw [e2]
        exact decide_eq_true (Int.le_refl _)
  · rintro v ⟨w, rfl, hwp, hwl⟩
    have hm := min_lay l w 0 hz hwl hwp
    refine Rn.need (enum_len l hz) (Gv.bindR (g_at l w hz hwl) (Rn.need hm (Rn.need (enum_len l hz) ?_)))
    have hxm := minL_mem hm
    have hxl : ∀ e ∈ days w, minL ((days w).map (lay ⟨⟨l⟩⟩)) ≤ lay ⟨⟨l⟩⟩ e := fun e he => minL_le (List.mem_map.mpr ⟨e, he, rfl⟩)
    generalize minL ((days w).map (lay ⟨⟨l⟩⟩)) = x at hxm hxl
    refine Gv.bindR (a := ((days w).filter fun d => decide (lay ⟨⟨l⟩⟩ d = x)).map Int.ofNat) ?_ ?_
    · rw [enum_range]
      refine (Gv.comp (tb := fun v : T2 Int Int => w.testBit v.a.toNat && decide (v.b = x)) (eb := fun v : T2 Int Int => v.a) (fun v hv => ?_) (fun v hv _ => Gv.ret)).cast ?_
      · obtain ⟨d, hd, rfl⟩ := List.mem_map.mp hv
        refine Gv.need' (Int.natCast_nonneg _) ?_
        show Gv (if pyEq (Builtin.bitAnd ((w : Int) / 2 ^ ((d : Int)).toNat) 1) (1 : Int) = true then pure (pyEq (lay ⟨⟨l⟩⟩ d) x) else pure false) _
        rw [Int.toNat_natCast, bit_test1, pyEq_ii]
        show Gv _ (w.testBit ((d : Int)).toNat && _)
        rw [Int.toNat_natCast]
        cases w.testBit d <;> exact Gv.ret
      · rw [days_range hwl hz, List.filter_map, List.map_map, List.filter_filter]
        refine (congrArg (fun p => List.map _ ((List.range l.length).filter p)) (funext fun i => ?_)).trans (List.map_congr_left fun i _ => rfl)
        show (w.testBit ((i : Int)).toNat && _) = _
        rw [Int.toNat_natCast, Bool.and_comm]
    · have hN : ∀ d ∈ (days w).filter fun d => decide (lay ⟨⟨l⟩⟩ d = x), d ∈ days w ∧ lay ⟨⟨l⟩⟩ d = x := fun d hd => by simpa using hd
      have hN2 : ∀ d ∈ days w, lay ⟨⟨l⟩⟩ d = x → d ∈ (days w).filter fun d => decide (lay ⟨⟨l⟩⟩ d = x) := fun d h1 h2 => by simp [h1, h2]
      have hne2 : ((days w).filter fun d => decide (lay ⟨⟨l⟩⟩ d = x)) ≠ [] := fun z => by
        obtain ⟨d, h1, h2⟩ := List.mem_map.mp hxm
        have := hN2 d h1 h2
        rw [z] at this
        cases this
      have hlen2 : ((days w).filter fun d => decide (lay ⟨⟨l⟩⟩ d = x)).length ≤ 16 := Nat.le_trans (List.length_filter_le _ _) (days_len w)
      generalize (days w).filter (fun d => decide (lay ⟨⟨l⟩⟩ d = x)) = N at hN hN2 hne2 hlen2
      have hd16 : ∀ d ∈ N, d < l.length := fun d hd => days_lt hwl (hN d hd).1
      refine (r_take b _ (by omega) (big8000 (by omega))).bind fun t1 ⟨ha0, ha1⟩ => (r_take b _ (by omega) (big8000 (by omega))).bind fun t2 ⟨hb0, hb1⟩ => ?_
      obtain ⟨t1, rfl⟩ := Int.eq_ofNat_of_zero_le ha0
      obtain ⟨t2, rfl⟩ := Int.eq_ofNat_of_zero_le hb0
      have h12 : t1 &&& t2 < 2 ^ l.length := Nat.lt_of_le_of_lt Nat.and_le_left (by omega)
      rw [bitAnd_nat]
      refine (r_take b 3 (by omega) (big8000 (by decide))).bind fun r4 _ => ?_
      by_cases hr : 0 < r4
      · rw [decide_eq_true hr, if_pos rfl]
        refine Gv.rn (a := .rt ⟨(w : Int), ((N.foldl (fun m d => m ||| 2 ^ d) (t1 &&& t2) : Nat) : Int), true⟩) (Gv.bind (Gv.bind (or_all N (fun d hd => by have := hd16 d hd; omega) (t1 &&& t2)) Gv.ret) Gv.ret) ⟨_, rfl, ⟨w, N.foldl (fun m d => m ||| 2 ^ d) (t1 &&& t2), true⟩, rfl, ⟨hwp, hwl, or_all_lt _ _ _ hd16 h12⟩, ?_⟩
        obtain ⟨d, h1, h2⟩ := List.mem_map.mp hxm
        refine kept_of (x := x) (d := d) hxl h1 h2 (fun _ e he hx => ?_) (fun z => by cases z)
        show (N.foldl (fun m d => m ||| 2 ^ d) (t1 &&& t2)).testBit e = true
        rw [setN_bit0, decide_eq_true (hN2 e he hx), Bool.or_true]
      · rw [decide_eq_false hr, if_neg Bool.false_ne_true]
        simp only [pb, ba, sq_nx, sq_rt, sq_b, fR_rt, fR_b, fN_nx, fN_b, setW, retW, dropW]
        refine (r_take b _ (by omega) (big8000 (by omega))).bind fun t3 ⟨hc0, hc1⟩ => ?_
        obtain ⟨t3, rfl⟩ := Int.eq_ofNat_of_zero_le hc0
        refine (r_of b (N.map Int.ofNat) (by simpa using hne2) (by rw [List.length_map]; omega)).bind fun dd hdd => ?_
        obtain ⟨d, hd, rfl⟩ := List.mem_map.mp hdd
        have hdl := hd16 d hd
        refine Rn.need (cpow1 d (by omega)) ?_
        rw [bitOr_nat, show (1 : Int) * 2 ^ (Int.ofNat d).toNat = ((2 ^ d : Nat) : Int) from shl_eq d, bitAnd_notnat]
        have hlt : (t1 &&& t2 ||| t3) < 2 ^ l.length := Nat.or_lt_two_pow h12 (by omega)
        have hcb := (SN.mk (t1 &&& t2 ||| t3) (2 ^ d) true).cb
        have hcb : (SN.mk (t1 &&& t2 ||| t3) (2 ^ d) true).c + (SN.mk (t1 &&& t2 ||| t3) (2 ^ d) true).b = (t1 &&& t2 ||| t3) := hcb
        refine Rn.ret ⟨_, rfl, ⟨w, (SN.mk (t1 &&& t2 ||| t3) (2 ^ d) true).b, false⟩, rfl, ⟨hwp, hwl, ?_⟩, ?_⟩
        · show (SN.mk (t1 &&& t2 ||| t3) (2 ^ d) true).b < 2 ^ l.length
          omega
        · refine kept_of (x := x) (d := d) hxl (hN d hd).1 (hN d hd).2 (fun z => by cases z) fun _ => ?_
          show ((SN.mk (t1 &&& t2 ||| t3) (2 ^ d) true).b).testBit d = false
          rw [SN.b_bit]
          show ((t1 &&& t2 ||| t3).testBit d && !(2 ^ d).testBit d) = false
          rw [Nat.testBit_two_pow_self]
          simp
end TW
set_option Elab.async false
set_option maxRecDepth 100000
set_option maxHeartbeats 1000000
set_option linter.all false
set_option autoImplicit false
/-! the law's questions -/
namespace TW
open Pa (rep)
open PaL (repL)
open PySem PySem.Spec PyProof.Rows L2 My
theorem OkL.up {n m : Nat} {ss : List SN} (h : OkL n ss) (k : n ≤ m) : OkL m ss := fun s hs => (h s hs).up k
theorem g_answers (l : List Int) (ss : List SN) (h : Lay l) (hs : OkL l.length ss) (hz : ss.length ≤ 12) : Gv (w_l_answers ⟨⟨l⟩⟩ ⟨l⟩ ⟨ss.map SN.t3⟩) true := by
  have hl := h.le
  have hDc : Dc l.length := h.n
  have h16 : OkL 16 ss := hs.up hl
  obtain ⟨ns, k, d, hm⟩ := g_l_marks l.length hDc
  have hnd : nDays ⟨⟨l⟩⟩ = l.length := rfl
  unfold w_l_answers
  simp only [pb, ba, sq_nx, sq_rt, sq_b, fR_rt, fR_b, fN_nx, fN_b, setW, retW, dropW]
  refine (g_said ss (by omega) h16).bind ((g_l_first l ss hl hs).bind (hm.bind ((g_book _ l.length ss rfl hz hs).bind (Gv.need' (by rw [sizeLine_eq]; exact Nat.le_of_ble_eq_true rfl) ?_))))
  refine Gv.fR (Gv.seq (s := ()) (Gv.for (g := fun s _ => s) fun x u hx => ?_) (Gv.seq (s := ()) (Gv.for (g := fun s _ => s) fun x u hx => ?_) Gv.ret))
  · have e1 : Gv (w_Order__call_S ⟨⟨l⟩⟩ x) (firstN ⟨⟨l⟩⟩ ss) ∧ Gv (w_Order_keeps_all_S ⟨⟨l⟩⟩ x) (firstN ⟨⟨l⟩⟩ ss).isNone := by
      simp only [List.mem_cons, List.not_mem_nil, or_false] at hx
      rcases hx with hx | hx | hx <;> subst hx
      · exact ⟨g_call ⟨⟨l⟩⟩ ss hl hs, g_keeps_all ⟨⟨l⟩⟩ ss hl hs⟩
      · exact ⟨g_call_T ⟨⟨l⟩⟩ ss hl hs, g_keeps_all_T ⟨⟨l⟩⟩ ss hl hs⟩
      · exact ⟨g_call_B ⟨⟨l⟩⟩ _ ss hl hs, g_keeps_all_B ⟨⟨l⟩⟩ _ ss hl hs⟩
    obtain ⟨ea, eb⟩ := e1
    refine ea.bind ?_
    rw [pyEq_oo, decide_eq_true rfl]
    simp only [Bool.not_true, Bool.false_eq_true, if_false]
    generalize firstN ⟨⟨l⟩⟩ ss = F at eb ⊢
    cases F with
    | none =>
      simp only [Bool.false_eq_true, if_false]
      simp only [pb, ba, sq_nx, sq_rt, sq_b, fR_rt, fR_b, fN_nx, fN_b, setW, retW, dropW]
      refine eb.bind ((g_flag _ _).bind ?_)
      rw [decide_eq_true rfl]
      exact Gv.ret
    | some f =>
      simp only [Bool.false_eq_true, if_false]
      simp only [pb, ba, sq_nx, sq_rt, sq_b, fR_rt, fR_b, fN_nx, fN_b, setW, retW, dropW]
      refine eb.bind ((g_flag _ _).bind ?_)
      rw [decide_eq_true rfl]
      exact Gv.ret
  · obtain ⟨i, hi⟩ := List.mem_iff_getElem?.mp hx
    obtain ⟨i1, i2⟩ := zipL_get hi
    rw [List.getElem?_map] at i1 i2
    obtain ⟨s, is, e1⟩ := Option.map_eq_some_iff.mp i1
    rw [is] at i2
    have e2 := Option.some.inj i2
    have e2 : s.sy = x.b := e2
    have hsi := List.mem_of_getElem? is
    have ok := hs s hsi
    rw [← e1, ← e2]
    refine (g_l_keeps l s hl ok).bind ((g_keeps ⟨⟨l⟩⟩ s hl ok).bind ((g_flag _ _).bind ?_))
    rw [decide_eq_true rfl]
    simp only [Bool.not_true, Bool.false_eq_true, if_false]
    simp only [pb, ba, sq_nx, sq_rt, sq_b, fR_rt, fR_b, fN_nx, fN_b, setW, retW, dropW]
    refine (g_contrary s (h16 s hsi)).bind ((g_keeps ⟨⟨l⟩⟩ s.co hl ok.co).bind ?_)
    rw [kept_co (h16 s hsi)]
    refine (g_flag _ _).bind ?_
    rw [decide_eq_true rfl]
    simp only [Bool.not_true, Bool.false_eq_true, if_false]
    simp only [pb, ba, sq_nx, sq_rt, sq_b, fR_rt, fR_b, fN_nx, fN_b, setW, retW, dropW]
    refine Gv.bind (a := false) ?_ Gv.ret
    show Gv (if s.u = true then w_Order_normal ⟨⟨l⟩⟩ (s.w : Int) >>= fun a => (pure (!pyEq (pyEq (Builtin.bitAnd a (Builtin.bitNot (s.t : Int))) (0 : Int)) (s.kept ⟨⟨l⟩⟩)) : W Bool) else pure false) _
    cases u : s.u with
    | false => exact Gv.ret
    | true =>
      rw [if_pos rfl]
      refine (g_normal ⟨⟨l⟩⟩ s.w hl ok.w).bind ?_
      rw [normal_kept ⟨⟨l⟩⟩ s hl ok u, pyEq_bb, decide_eq_true rfl]
      exact Gv.ret
/-! ### what is refused -/
abbrev OE : Exn := ⟨112, []⟩
theorem g_refused (o : Order) (s : SN) (hl : nDays o ≤ 16) (hb : 2 ^ nDays o ≤ s.w ||| s.t) : Gv (w_l_refused o s.sy 2) true := by
  unfold w_l_refused
  refine Gv.fR (Gv.bind (a := .rt true) (Gv.tryT (e := OE) ?_ rfl (by simp only [pb, ba, sq_nx, sq_rt, sq_b, fR_rt, fR_b, fN_nx, fN_b, setW, retW, dropW]; exact Gv.need' (by decide) Gv.ret)) Gv.ret)
  exact (t_keeps o s hl hb).bind
theorem t_call (o : Order) (as bs : List SN) (s : SN) (hl : nDays o ≤ 16) (h : OkL (nDays o) as) (hb : 2 ^ nDays o ≤ s.w ||| s.t) : Th (w_Order__call o ⟨(as ++ s :: bs).map SN.sy⟩) ⟨112, []⟩ := by
  unfold w_Order__call
  simp only [pb, ba, sq_nx, sq_rt, sq_b, fR_rt, fR_b, fN_nx, fN_b, setW, retW, dropW]
  exact (t_first o as bs s hl h hb).bind
theorem t_keeps_all_T (o : Order) (as bs : List SN) (s : SN) (hl : nDays o ≤ 16) (h : OkL (nDays o) as) (hb : 2 ^ nDays o ≤ s.w ||| s.t) : Th (w_Order_keeps_all_OrderTSaying o ⟨(as ++ s :: bs).map SN.sy⟩) ⟨112, []⟩ := by
  unfold w_Order_keeps_all_OrderTSaying
  simp only [pb, ba, sq_nx, sq_rt, sq_b, fR_rt, fR_b, fN_nx, fN_b, setW, retW, dropW]
  exact (t_first_T o as bs s hl h hb).bind
theorem g_refusedL (o : Order) (as bs : List SN) (s : SN) (hl : nDays o ≤ 16) (h : OkL (nDays o) as) (hb : 2 ^ nDays o ≤ s.w ||| s.t) : Gv (w_l_refused_OrderRSayingi o ⟨(as ++ s :: bs).map SN.sy⟩ 0) true := by
  unfold w_l_refused_OrderRSayingi
  refine Gv.fR (Gv.bind (a := .rt true) (Gv.tryT (e := OE) ?_ rfl (by simp only [pb, ba, sq_nx, sq_rt, sq_b, fR_rt, fR_b, fN_nx, fN_b, setW, retW, dropW]; exact Gv.need' (by decide) Gv.ret)) Gv.ret)
  exact (t_call o as bs s hl h hb).bind
theorem g_refusedT (o : Order) (as bs : List SN) (s : SN) (hl : nDays o ≤ 16) (h : OkL (nDays o) as) (hb : 2 ^ nDays o ≤ s.w ||| s.t) : Gv (w_l_refused_OrderTSayingi o ⟨(as ++ s :: bs).map SN.sy⟩ 1) true := by
  unfold w_l_refused_OrderTSayingi
  refine Gv.fR (Gv.bind (a := .rt true) (Gv.tryT (e := OE) ?_ rfl (by simp only [pb, ba, sq_nx, sq_rt, sq_b, fR_rt, fR_b, fN_nx, fN_b, setW, retW, dropW]; exact Gv.need' (by decide) Gv.ret)) Gv.ret)
  exact (t_keeps_all_T o as bs s hl h hb).bind
/-! ### a thousand sayings -/
theorem find_app (o : Order) : ∀ (as : List SN) (s : SN), (∀ a ∈ as, a.kept o = true) → s.kept o = false → firstN o (as ++ [s]) = some (as.length : Int)
  | [], s, _, h => by unfold firstN; simp [h]
  | a :: as, s, ha, h => by
    have ih := find_app o as s (fun x hx => ha x (List.mem_cons_of_mem _ hx)) h
    unfold firstN at ih ⊢
    rw [List.cons_append, List.findIdx?_cons, ha a List.mem_cons_self]
    show Option.map Int.ofNat (Option.map (fun i => i + 1) (List.findIdx? _ (as ++ [s]))) = _
    obtain ⟨j, hj, e⟩ := Option.map_eq_some_iff.mp ih
    have e : (j : Int) = (as.length : Int) := e
    rw [hj]
    show some (((j + 1 : Nat)) : Int) = some (((as.length + 1 : Nat)) : Int)
    congr 2
    omega
theorem mem_flat {α : Type} {k : Nat} {xs : List α} {x : α} (h : x ∈ (List.replicate k xs).flatten) : x ∈ xs := by
  obtain ⟨ys, hy, hx⟩ := List.mem_flatten.mp h
  rw [(List.mem_replicate.mp hy).2] at hx
  exact hx
theorem r_said {n : Nat} {P : SN → Prop} {xs : List (T3 Int Int Bool)} (h : ∀ x ∈ xs, ∃ s : SN, x = s.t3 ∧ P s) : ∃ ss : List SN, xs = ss.map SN.t3 ∧ ∀ s ∈ ss, P s := by
  induction xs with
  | nil => exact ⟨[], rfl, nofun⟩
  | cons x xs ih =>
    obtain ⟨s, e, p⟩ := h x List.mem_cons_self
    obtain ⟨ss, e2, p2⟩ := ih fun y hy => h y (List.mem_cons_of_mem _ hy)
    exact ⟨s :: ss, by rw [e, e2]; rfl, fun y hy => (List.mem_cons.mp hy).elim (fun z => z ▸ p) (p2 y)⟩
theorem r_long (b : Bag) (l : List Int) (h : Lay l) : Rn (w_l_long b ⟨⟨l⟩⟩ ⟨l⟩) (· = true) := by
  have hl := h.le
  unfold w_l_long
  simp only [pb, ba, sq_nx, sq_rt, sq_b, fR_rt, fR_b, fN_nx, fN_b, setW, retW, dropW]
  refine Rn.need ⟨by omega, by omega⟩ (Rn.need (by rw [sizeLine_eq]; exact Nat.le_of_ble_eq_true rfl) ?_)
  refine (Rn.all fun x _ => r_toward b l h).bind fun xs ⟨hlen, hx⟩ => ?_
  have hlen : xs.length = 3 := hlen
  obtain ⟨ss, rfl, hs⟩ := r_said (n := 0) hx
  rw [List.length_map] at hlen
  have ok : OkL l.length ss := fun s m => (hs s m).1
  obtain ⟨s0, tl, e0⟩ : ∃ s0 tl, ss = s0 :: tl := by
    cases ss with
    | nil => cases hlen
    | cons a b => exact ⟨a, b, rfl⟩
  have hs0 : s0 ∈ ss := by rw [e0]; exact List.mem_cons_self
  have ok16 := ok.up hl
  refine Gv.bindR (g_said ss (by omega) ok16) ?_
  refine Rn.need ⟨by decide, by decide, by rw [List.length_map, hlen, sizeLine_eq]; exact Nat.le_of_ble_eq_true rfl⟩ ?_
  have hat : atI (ss.map SN.sy) 0 = some s0.sy := by
    show atI _ ((0 : Nat) : Int) = _
    exact atI_nat (by rw [e0]; rfl)
  rw [hat]
  refine Gv.bindR (Gv.get rfl) (Gv.bindR (g_contrary s0 (ok16 s0 hs0)) (Rn.need (by rw [sizeLine_eq]; exact Nat.le_of_ble_eq_true rfl) ?_))
  have e333 : (333 : Int).toNat = 333 := rfl
  rw [e333]
  have hfl : (List.replicate 333 (ss.map SN.sy)).flatten = ((List.replicate 333 ss).flatten).map SN.sy := by
    rw [List.map_flatten, List.map_replicate]
  have hln : ((List.replicate 333 ss).flatten).length = 999 := by
    rw [List.length_flatten, List.map_replicate, List.sum_replicate_nat, hlen]
  have hall : ∀ a ∈ (List.replicate 333 ss).flatten, a.kept ⟨⟨l⟩⟩ = true ∧ a.Ok l.length := fun a ha => ⟨(hs a (mem_flat ha)).2, (hs a (mem_flat ha)).1⟩
  rw [hfl]
  generalize (List.replicate 333 ss).flatten = big at hln hall
  have hco : s0.co.kept ⟨⟨l⟩⟩ = false := by rw [kept_co (ok16 s0 hs0), (hs s0 hs0).2]; rfl
  have hf := find_app ⟨⟨l⟩⟩ big s0.co (fun a ha => (hall a ha).1) hco
  have hok : OkL l.length (big ++ [s0.co]) := fun a ha => by
    rcases List.mem_append.mp ha with z | z
    · exact (hall a z).2
    · rw [List.mem_singleton.mp z]
      exact (ok s0 hs0).co
  refine Rn.need (by rw [List.length_map, hln, sizeLine_eq]; exact Nat.le_of_ble_eq_true rfl) ?_
  have hm : big.map SN.sy ++ [s0.co.sy] = (big ++ [s0.co]).map SN.sy := by rw [List.map_append]; rfl
  rw [hm]
  refine Gv.bindR (g_call ⟨⟨l⟩⟩ _ hl hok) ?_
  rw [hf, hln]
  refine Gv.rn (Gv.bind (a := true) ?_ Gv.ret) rfl
  rw [pyEq_oi, decide_eq_true (show some (((999 : Nat)) : Int) = some 999 from rfl), if_pos rfl]
  refine (g_keeps_all_T ⟨⟨l⟩⟩ _ hl hok).bind ?_
  rw [hf]
  exact (g_flag _ _).cast rfl
end TW
set_option Elab.async false
set_option maxRecDepth 100000
set_option maxHeartbeats 1000000
set_option linter.all false
set_option autoImplicit false
/-! lifting: the days that stay -/
namespace TW
open Pa (rep)
open PaL (repL)
open PySem PySem.Spec PyProof.Rows L2 My
section
variable {α β γ S L : Type}
theorem Rn.forC {f : α → S → W (Res S β S)} (I : Nat → S → Prop) {xs : List α} {s : S} (h0 : I 0 s) (hs : ∀ (j : Nat) (x : α) (s : S), xs[j]? = some x → I j s → Rn (f x s) fun r => ∃ s', (r = .nx s' ∨ r = .ct s') ∧ I (j + 1) s') : Rn (forW (L := L) f xs s) fun r => ∃ s', r = .nx s' ∧ I xs.length s' := fun P E q =>
  run_for I xs 0 s h0 (fun j x s hx hi => hs j x s hx (by rwa [Nat.zero_add] at hi) _ _ fun r ⟨s', e, i'⟩ => by
    rcases e with e | e <;> subst e <;> rwa [Nat.zero_add]) fun s' hi => q _ ⟨s', rfl, by rwa [Nat.zero_add] at hi⟩
theorem Rn.while {c : S → W Bool} {b : S → W (Res S β S)} {s : S} (I : S → Prop) (μ : S → Nat) (cb : S → Bool) (hc : ∀ s, I s → Gv (c s) (cb s)) (h0 : I s) (hb : ∀ s, I s → cb s = true → Rn (b s) fun r => ∃ s', r = .nx s' ∧ I s' ∧ μ s' < μ s) :
    Rn (whileW (L := L) c b s) fun r => ∃ s', r = .nx s' ∧ I s' ∧ cb s' = false := fun P E q => by
  refine ⟨I, μ, h0, fun s hs => hc s hs _ _ ?_⟩
  cases h : cb s with
  | true =>
    rw [if_pos rfl]
    refine hb s hs h _ _ fun r ⟨s', e, i, m⟩ => ?_
    subst e
    exact ⟨i, m⟩
  | false =>
    rw [if_neg Bool.false_ne_true]
    exact q _ ⟨s, rfl, hs, h⟩
end
/-- a set within a set -/
def Sub (a b : Nat) : Prop := ∀ i, a.testBit i = true → b.testBit i = true
theorem and_ne {a b : Nat} : a &&& b ≠ 0 ↔ ∃ i, a.testBit i = true ∧ b.testBit i = true := by
  constructor
  · intro h
    by_cases z : ∃ i, a.testBit i = true ∧ b.testBit i = true
    · exact z
    · refine (h (Nat.eq_of_testBit_eq fun i => ?_)).elim
      rw [Nat.testBit_and, Nat.zero_testBit]
      cases h1 : a.testBit i <;> cases h2 : b.testBit i <;> first | rfl | exact (z ⟨i, h1, h2⟩).elim
  · rintro ⟨i, h1, h2⟩ z
    have : (a &&& b).testBit i = true := by rw [Nat.testBit_and, h1, h2]; rfl
    rw [z, Nat.zero_testBit] at this
    cases this
/-- what stays when these leave -/
def minus (a b : Nat) : Nat := (SN.mk a b true).b
theorem minus_bit (a b i : Nat) : (minus a b).testBit i = (a.testBit i && !b.testBit i) := SN.b_bit _ i
theorem minus_eq (a b : Nat) : Builtin.bitAnd (a : Int) (Builtin.bitNot (b : Int)) = (minus a b : Int) := SN.b_eq (SN.mk a b true)
theorem minus_add (a b : Nat) : (a &&& b) + minus a b = a := SN.cb (SN.mk a b true)
/-- the saying holds of those that lie at or below a layer, if P lie below it -/
def stab (P U : Nat) (s : SN) : Prop := s.hi &&& U ≠ 0 → s.lo &&& (if s.u then P else U) ≠ 0
theorem tr_nat (n : Nat) : Tr.tr (n : Int) = decide (n ≠ 0) := by
  cases n with
  | zero => rfl
  | succ n => rfl
theorem ixN_nat {n d : Nat} (h : d < n) : ixN n (d : Int) = some d := by
  unfold ixN
  simp [h]
theorem r_stay (ss : List SN) (R P : Nat) (rs : List (Option Int)) (hs : List Int) (n : Nat) (hn : n ≤ 16) (hR : R < 2 ^ n) (hrs : rs.length = n) (hhs : hs.length = n) (hz : ss.length ≤ 1000) :
    Rn (w_stay ⟨ss.map SN.sy⟩ (R : Int) (P : Int) rs hs) fun r => ∃ T : Nat, r.a = (T : Int) ∧ T < 2 ^ n ∧ Sub T R ∧ (∀ s ∈ ss, stab P T s) ∧ (∀ U, Sub U R → (∀ s ∈ ss, stab P U s) → Sub U T) ∧ r.r.a.length = n ∧ r.r.r.a.length = n := by
  unfold w_stay
  simp only [pb, ba, sq_nx, sq_rt, sq_b, fR_rt, fR_b, fN_nx, fN_b, setW, retW, dropW]
  refine Rn.fR (Rn.seq (T := fun v : List (Option Int) × List Int × Int × Int × Bool => ∃ T : Nat, v.2.2.1 = (T : Int) ∧ T < 2 ^ n ∧ Sub T R ∧ (∀ s ∈ ss, stab P T s) ∧ (∀ U, Sub U R → (∀ s ∈ ss, stab P U s) → Sub U T) ∧ v.1.length = n ∧ v.2.1.length = n) ?_ fun v ⟨T, h1, h2⟩ => Rn.ret ⟨_, rfl, T, h1, h2⟩)
  refine (Rn.while (fun v : List (Option Int) × List Int × Int × Int × Bool => ∃ T : Nat, v.2.2.1 = (T : Int) ∧ T < 2 ^ n ∧ Sub T R ∧ (v.2.2.2.2 = false → ∀ s ∈ ss, stab P T s) ∧ (∀ U, Sub U R → (∀ s ∈ ss, stab P U s) → Sub U T) ∧ v.1.length = n ∧ v.2.1.length = n)
    (fun v => v.2.2.1.toNat + if v.2.2.2.2 then 1 else 0) (fun v => v.2.2.2.2) (fun v _ => Gv.ret) ⟨R, rfl, hR, fun _ h => h, fun z => Bool.noConfusion z, fun U h _ => h, hrs, hhs⟩ ?_).mono ?_
  · rintro v ⟨T, e, hT, hsub, _, hmax, l1, l2⟩ hag
    have hag : v.2.2.2.2 = true := hag
    refine Rn.seq (T := fun v' : List (Option Int) × List Int × Int × Int × Bool => ∃ T' : Nat, v'.2.2.1 = (T' : Int) ∧ T' < 2 ^ n ∧ Sub T' R ∧ (∀ U, Sub U R → (∀ s ∈ ss, stab P U s) → Sub U T') ∧ v'.1.length = n ∧ v'.2.1.length = n ∧ (v'.2.2.2.2 = true → T' < T) ∧ (v'.2.2.2.2 = false → T' = T ∧ ∀ s ∈ ss, stab P T s)) ?_ ?_
    · refine (Rn.forC (s := (v.1, v.2.1, v.2.2.1, v.2.2.2.1, false)) (I := fun (j : Nat) (v' : List (Option Int) × List Int × Int × Int × Bool) => ∃ T' : Nat, v'.2.2.1 = (T' : Int) ∧ T' < 2 ^ n ∧ Sub T' R ∧ (∀ U, Sub U R → (∀ s ∈ ss, stab P U s) → Sub U T') ∧ v'.1.length = n ∧ v'.2.1.length = n ∧ (v'.2.2.2.2 = true → T' < T) ∧ (v'.2.2.2.2 = false → T' = T ∧ ∀ (i : Nat) (s : SN), i < j → ss[i]? = some s → stab P T s)) ⟨T, e, hT, hsub, hmax, l1, l2, fun z => Bool.noConfusion z, fun _ => ⟨rfl, fun i s h => absurd h (Nat.not_lt_zero i)⟩⟩ ?_).mono ?_
      · rintro j x v' hx ⟨T', e', hT', hsub', hmax', l1', l2', ha, hb⟩
        obtain ⟨hx1, hx2⟩ := enumL_get hx
        rw [List.getElem?_map] at hx2
        obtain ⟨s, hsj, hx3⟩ := Option.map_eq_some_iff.mp hx2
        have hsm : s ∈ ss := List.mem_of_getElem? hsj
        obtain ⟨x1, x2⟩ := x
        have hx3 : s.sy = x2 := hx3
        subst hx3
        have hle : T' ≤ T := by
          cases hv : v'.2.2.2.2 with
          | true => exact Nat.le_of_lt (ha hv)
          | false => exact Nat.le_of_eq (hb hv).1
        have eH : (if pyEq s.sy.step (1 : Int) = true then (pure (P : Int) : W Int) else pure v'.2.2.1) = pure (((if s.u then P else T' : Nat)) : Int) := by
          rw [e']
          show (if pyEq s.step (1 : Int) = true then (pure (P : Int) : W Int) else pure (T' : Int)) = _
          unfold SN.step
          cases s.u <;> rfl
        show Rn (((if pyEq s.sy.step (1 : Int) = true then (pure (P : Int) : W Int) else pure v'.2.2.1)) >>= _) _
        rw [eH]
        generalize hH : (if s.u then P else T') = Hd
        have e1 : Builtin.bitAnd s.sy.high v'.2.2.1 = ((s.hi &&& T' : Nat) : Int) := by rw [e']; exact bitAnd_nat s.hi T'
        have e2 : Builtin.bitAnd s.sy.low (Hd : Int) = ((s.lo &&& Hd : Nat) : Int) := bitAnd_nat s.lo Hd
        simp only [pb, ba, sq_nx, sq_rt, sq_b, fR_rt, fR_b, fN_nx, fN_b, setW, retW, dropW]
        rw [e1, e2, pyEq_ii, tr_nat]
        have hst : stab P T' s ↔ (s.hi &&& T' = 0 ∨ s.lo &&& Hd ≠ 0) := by
          unfold stab
          rw [hH]
          constructor
          · intro h
            by_cases z : s.hi &&& T' = 0
            · exact .inl z
            · exact .inr (h z)
          · rintro (h | h) z
            · exact (z h).elim
            · exact h
        refine Rn.bind (T := fun b => b = decide (s.hi &&& T' = 0 ∨ s.lo &&& Hd ≠ 0)) ?_ ?_
        · refine Rn.ite (fun h => Rn.ret ?_) fun h => Rn.ret ?_
          · have h := of_decide_eq_true h
            exact (decide_eq_true (.inl (by omega))).symm
          · have h : ¬ ((s.hi &&& T' : Nat) : Int) = 0 := fun z => h (decide_eq_true z)
            refine decide_eq_decide.mpr ⟨.inr, fun z => z.elim (fun z => (h (by omega)).elim) id⟩
        · rintro _ rfl
          by_cases hc : s.hi &&& T' = 0 ∨ s.lo &&& Hd ≠ 0
          · rw [decide_eq_true hc, if_pos rfl]
            refine Rn.ret ⟨_, .inr rfl, T', e', hT', hsub', hmax', l1', l2', ha, fun hf => ⟨(hb hf).1, fun i z hi hz => ?_⟩⟩
            rcases Nat.lt_succ_iff_lt_or_eq.mp hi with h | h
            · exact (hb hf).2 i z h hz
            · subst h
              rw [hsj] at hz
              cases hz
              rw [← (hb hf).1]
              exact hst.mpr hc
          · rw [decide_eq_false hc, if_neg Bool.false_ne_true]
            simp only [pb, ba, sq_nx, sq_rt, sq_b, fR_rt, fR_b, fN_nx, fN_b, setW, retW, dropW]
            have hc1 : s.hi &&& T' ≠ 0 := fun z => hc (.inl z)
            have hc2 : s.lo &&& Hd = 0 := by
              by_cases z : s.lo &&& Hd = 0
              · exact z
              · exact (hc (.inr z)).elim
            have hlv : s.hi &&& T' < 2 ^ n := Nat.lt_of_le_of_lt Nat.and_le_right hT'
            refine Gv.bindR (g_days_in _ (Nat.lt_of_lt_of_le hlv (Nat.pow_le_pow_right (by omega) hn))) ?_
            refine Rn.mono (T := fun r => ∃ s', r = .nx s' ∧ _) (Rn.seq (T := fun w : List (Option Int) × List Int => w.1.length = n ∧ w.2.length = n) ((Rn.forL (I := fun (_ : Nat) (w : List (Option Int) × List Int) => w.1.length = n ∧ w.2.length = n) ⟨l1', l2'⟩ ?_).mono fun r ⟨w, e, h⟩ => ⟨w, e, h⟩) ?_) fun r ⟨w, e, h⟩ => ⟨w, .inl e, h⟩
            · rintro k d w hd ⟨w1, w2⟩
              have hd : d ∈ daysI (s.hi &&& T') := List.mem_of_getElem? hd
              unfold daysI at hd
              obtain ⟨d', hd', rfl⟩ := List.mem_map.mp hd
              have hdn : d' < n := days_lt hlv hd'
              have i1 : ixN w.1.length (Int.ofNat d') = some d' := by rw [w1]; exact ixN_nat hdn
              have i2 : ixN w.2.length (Int.ofNat d') = some d' := by rw [w2]; exact ixN_nat hdn
              refine Rn.need (by rw [i1]; rfl) (Rn.need (by rw [i2]; rfl) (Rn.ret ⟨_, rfl, ?_, ?_⟩))
              · show (List.set _ _ _).length = n
                rw [List.length_set, w1]
              · show (List.set _ _ _).length = n
                rw [List.length_set, w2]
            · rintro w ⟨w1, w2⟩
              have hadd := minus_add T' (s.hi &&& T')
              have hand : T' &&& (s.hi &&& T') = s.hi &&& T' := by
                refine Nat.eq_of_testBit_eq fun i => ?_
                simp only [Nat.testBit_and]
                cases T'.testBit i <;> cases s.hi.testBit i <;> rfl
              rw [hand] at hadd
              have hlt : minus T' (s.hi &&& T') < T' := by omega
              refine Rn.ret ⟨_, rfl, minus T' (s.hi &&& T'), ?_, by omega, fun i hi => hsub' i ?_, fun U h1 h2 i hi => ?_, w1, w2, fun _ => by omega, fun z => Bool.noConfusion z⟩
              · show Builtin.bitAnd v'.2.2.1 (Builtin.bitNot _) = _
                rw [e']
                exact minus_eq T' (s.hi &&& T')
              · rw [minus_bit] at hi
                exact (Bool.and_eq_true _ _ ▸ hi).1
              · have hU := hmax' U h1 h2
                rw [minus_bit, hU i hi, Nat.testBit_and, hU i hi]
                cases hh : s.hi.testBit i with
                | false => rfl
                | true =>
                  obtain ⟨l, hl1, hl2⟩ := and_ne.mp (h2 s hsm (and_ne.mpr ⟨i, hh, hi⟩))
                  have : s.lo &&& Hd ≠ 0 := and_ne.mpr ⟨l, hl1, by
                    rw [← hH]
                    cases hu : s.u with
                    | true => rw [hu] at hl2; exact hl2
                    | false => rw [hu] at hl2; exact hU l hl2⟩
                  exact (this hc2).elim
      · rintro r ⟨v', e0, T', e', hT', hsub', hmax', l1', l2', ha, hb⟩
        refine ⟨v', e0, T', e', hT', hsub', hmax', l1', l2', ha, fun hf => ⟨(hb hf).1, fun s hs => ?_⟩⟩
        obtain ⟨i, hi⟩ := List.mem_iff_getElem?.mp hs
        refine (hb hf).2 i s ?_ hi
        rw [enumL_len, List.length_map]
        exact (List.getElem?_eq_some_iff.mp hi).1
    · rintro v' ⟨T', e', hT', hsub', hmax', l1', l2', ha, hb⟩
      refine Rn.ret ⟨_, rfl, ⟨T', e', hT', hsub', fun hf s hs => ?_, hmax', l1', l2'⟩, ?_⟩
      · rw [(hb hf).1]
        exact (hb hf).2 s hs
      · show v'.2.2.1.toNat + (if v'.2.2.2.2 = true then 1 else 0) < v.2.2.1.toNat + (if v.2.2.2.2 = true then 1 else 0)
        rw [e, e', hag]
        cases hv : v'.2.2.2.2 with
        | true =>
          have := ha hv
          simp
          omega
        | false =>
          have := (hb hv).1
          simp
          omega
  · rintro r ⟨v, e, ⟨T, e1, h1, h2, h3, h4, h5, h6⟩, hf⟩
    exact ⟨v, e, T, e1, h1, h2, h3 hf, h4, h5, h6⟩
end TW
set_option Elab.async false
set_option maxRecDepth 100000
set_option maxHeartbeats 1000000
set_option linter.all false
set_option autoImplicit false
/-! lifting: the climb, by what it gives -/
namespace TW
open Pa (rep)
open PaL (repL)
open PySem PySem.Spec PyProof.Rows L2 My
theorem bit_lt {X n d : Nat} (hX : X < 2 ^ n) (h : X.testBit d = true) : d < n := by
  refine Nat.lt_of_not_le fun z => ?_
  rw [Nat.testBit_lt_two_pow (Nat.lt_of_lt_of_le hX (Nat.pow_le_pow_right (by omega) z))] at h
  cases h
def lk (L : List (Option Int)) (d : Nat) : Option Int := (L[d]?).getD none
/-- layers, some without end, that satisfy a saying -/
def sat (f : Nat → Option Int) (s : SN) : Prop := ∀ h, s.hi.testBit h = true → ∀ y, f h = some y → ∃ l, s.lo.testBit l = true ∧ ∃ x, f l = some x ∧ x + s.step ≤ y
/-- layers from a start up that satisfy all sayings -/
structure Val (ss : List SN) (n : Nat) (st : Nat → Int) (f : Nat → Option Int) : Prop where
  s : ∀ s ∈ ss, sat f s
  st : ∀ d, d < n → ∀ y, f d = some y → st d ≤ y
/-- the least such layers -/
structure Lst (ss : List SN) (n : Nat) (st : Nat → Int) (f : Nat → Option Int) : Prop where
  v : Val ss n st f
  le : ∀ g, Val ss n st g → ∀ d, d < n → ∀ y, g d = some y → ∃ x, f d = some x ∧ x ≤ y
theorem g_behind (v : Int) (l : List Int) (g : Bool) (hz : l.length ≤ 16) : Gv (w_layer_behind (some v) ⟨l⟩ g) (if g then some (v + 1) else minO (l.filter fun x => decide (v < x))) := by
  unfold w_layer_behind
  simp only [pb, ba, sq_nx, sq_rt, sq_b, sq_i, sq_f, fR_rt, fR_b, fR_i, fR_f, fN_nx, fN_b, fN_i, fN_f, fI_nx, fI_b, fI_i, fI_f, i_b, f_b, if_true, if_false, Bool.false_eq_true, Bool.not_true, Bool.not_false, setW, retW, dropW, ifW, reduceIte]
  cases g with
  | true => exact (Gv.get rfl).bind Gv.ret
  | false =>
    refine Gv.need' (by rw [sizeLine_eq]; omega) (Gv.bind (Gv.comp (tb := fun x => decide (v < x)) (eb := fun x => x) (fun x _ => (Gv.get rfl).bind Gv.ret) fun x _ _ => Gv.ret) ?_)
    rw [List.map_id'' (fun _ => rfl)]
    exact Gv.ret
theorem minO_spec {xs : List Int} {m : Int} (h : minO xs = some m) : m ∈ xs ∧ ∀ x ∈ xs, m ≤ x := by
  unfold minO at h
  split at h
  · cases h
  · rename_i hn
    cases h
    exact ⟨minL_mem hn, fun x hx => minL_le hx⟩
theorem lk_set {L : List (Option Int)} {i : Nat} {a : Option Int} (h : i < L.length) (d : Nat) : lk (L.set i a) d = if d = i then a else lk L d := by
  unfold lk
  by_cases e : d = i
  · subst e
    rw [List.getElem?_set_self h, if_pos rfl]
    rfl
  · rw [List.getElem?_set_ne (Ne.symm e), if_neg e]
theorem lk_rep (n d : Nat) : lk (List.replicate n none) d = none := by
  unfold lk
  rw [List.getElem?_replicate]
  split <;> rfl
/-- days are placed -/
theorem r_place (X n : Nat) (v : Int) (L : List (Option Int)) (hn : n ≤ 16) (hX : X < 2 ^ n) (hL : L.length = n) {f : Int → List (Option Int) → W (Res (List (Option Int)) (T3 (Tup (Option Int)) (Tup (Option Int)) (Tup Int)) (List (Option Int)))}
    (hf : ∀ x L, f x L = (W.need (ixN L.length x).isSome >>= fun _ => pure (.nx (L.set ((ixN L.length x).getD 0) (some v))))) :
    Rn (forW (L := List (Option Int) × List (Option Int) × List Int × Int × Option Int) f (daysI X) L) fun r => ∃ L', r = .nx L' ∧ L'.length = n ∧ ∀ d, lk L' d = if X.testBit d = true then some v else lk L d := by
  refine (Rn.forL (I := fun (j : Nat) (L' : List (Option Int)) => L'.length = n ∧ ∀ d, lk L' d = if d ∈ (days X).take j then some v else lk L d) ⟨hL, fun d => by simp⟩ ?_).mono ?_
  · rintro j x L' hx ⟨h1, h2⟩
    unfold daysI at hx
    rw [List.getElem?_map] at hx
    obtain ⟨d', hd', rfl⟩ := Option.map_eq_some_iff.mp hx
    have hdn : d' < n := days_lt hX (List.mem_of_getElem? hd')
    have i1 : ixN L'.length (Int.ofNat d') = some d' := by rw [h1]; exact ixN_nat hdn
    rw [hf]
    refine Rn.need (by rw [i1]; rfl) (Rn.ret ⟨_, rfl, by rw [List.length_set, h1], fun d => ?_⟩)
    rw [i1]
    show lk (L'.set d' (some v)) d = _
    rw [lk_set (by omega), h2, List.take_add_one, hd']
    by_cases e : d = d'
    · subst e; simp
    · simp [e]
  · rintro r ⟨L', e, h1, h2⟩
    refine ⟨L', e, h1, fun d => ?_⟩
    rw [h2]
    unfold daysI
    rw [List.length_map, List.take_length]
    by_cases hd : X.testBit d = true
    · have : d < 16 := Nat.lt_of_lt_of_le (bit_lt hX hd) hn
      rw [if_pos (mem_days.mpr ⟨this, hd⟩), if_pos hd]
    · rw [if_neg fun z => hd (mem_days.mp z).2, if_neg hd]
end TW
set_option Elab.async false
set_option maxRecDepth 100000
set_option maxHeartbeats 1000000
set_option linter.all false
set_option autoImplicit false
/-! lifting: one layer -/
namespace TW
open Pa (rep)
open PaL (repL)
open PySem PySem.Spec PyProof.Rows L2 My
structure Clm (ss : List SN) (n : Nat) (st : Nat → Int) (L : List (Option Int)) (P : Nat) (ly : Option Int) : Prop where
  len : L.length = n
  lt : P < 2 ^ n
  p : ∀ d, P.testBit d = true ↔ ∃ y, lk L d = some y
  sg : ∀ d y, lk L d = some y → st d ≤ y
  b : ∀ v, ly = some v → ∀ d y, lk L d = some y → y < v
  sa : ∀ s ∈ ss, sat (lk L) s
  m : ∀ g, Val ss n st g → ∀ d, d < n → ∀ y, g d = some y → (∀ x, lk L d = some x → x ≤ y) ∧ (lk L d = none → ∃ v, ly = some v ∧ v ≤ y)
  g : (∀ d, d < n → st d = 0) → (∀ v, ly = some v → v ≤ (P : Int)) ∧ ∀ d y, lk L d = some y → y ≤ 65535
  f : (∀ d, d < n → st d = 0) → (∀ v, ly = some v → 0 ≤ v) ∧ ∀ k : Int, 0 ≤ k → (∀ v, ly = some v → k < v) → (ly = none → ∃ d y, lk L d = some y ∧ k ≤ y) → ∃ d, lk L d = some k
/-- those at or below a layer -/
def below (n : Nat) (g : Nat → Option Int) (v : Int) : Nat := setN ((List.range n).filter fun d => match g d with | some y => decide (y ≤ v) | none => false)
theorem below_bit {n : Nat} {g : Nat → Option Int} {v : Int} {d : Nat} : (below n g v).testBit d = true ↔ d < n ∧ ∃ y, g d = some y ∧ y ≤ v := by
  unfold below
  rw [setN_bit, decide_eq_true_iff, List.mem_filter, List.mem_range]
  constructor
  · rintro ⟨h1, h2⟩
    cases hg : g d with
    | none => rw [hg] at h2; cases h2
    | some y => rw [hg] at h2; exact ⟨h1, y, rfl, of_decide_eq_true h2⟩
  · rintro ⟨h1, y, h2, h3⟩
    rw [h2]
    exact ⟨h1, decide_eq_true h3⟩
theorem step_cases (s : SN) : (s.u = true ∧ s.step = 1) ∨ (s.u = false ∧ s.step = 0) := by unfold SN.step; cases s.u <;> simp
theorem Clm.below_sub {ss : List SN} {n : Nat} {st : Nat → Int} {L : List (Option Int)} {P R T : Nat} {v m : Int} (C : Clm ss n st L P (some v)) (ok : OkL n ss) (hT : ∀ U, Sub U R → (∀ s ∈ ss, stab P U s) → Sub U T) {g : Nat → Option Int} (hg : Val ss n st g)
    (hR : ∀ d, d < n → ∀ y, g d = some y → y ≤ m → R.testBit d = true) (hm : ∀ d, d < n → lk L d = none → ∀ y, g d = some y → m ≤ y) : Sub (below n g m) T := by
  refine hT _ (fun d hd => ?_) fun s hs => ?_
  · obtain ⟨h1, y, h2, h3⟩ := below_bit.mp hd
    exact hR d h1 y h2 h3
  · intro hh
    obtain ⟨h, hh1, hh2⟩ := and_ne.mp hh
    obtain ⟨h1, y, h2, h3⟩ := below_bit.mp hh2
    obtain ⟨l, hl1, x, hl2, hl3⟩ := hg.s s hs h hh1 y h2
    have hln : l < n := bit_lt (ok s hs).lo hl1
    refine and_ne.mpr ⟨l, hl1, ?_⟩
    rcases step_cases s with ⟨hu, hst⟩ | ⟨hu, hst⟩
    · rw [hu]
      show P.testBit l = true
      rw [C.p]
      cases hl : lk L l with
      | some z => exact ⟨z, rfl⟩
      | none =>
        have := hm l hln hl x hl2
        omega
    · rw [hu]
      exact below_bit.mpr ⟨hln, x, hl2, by omega⟩
theorem Clm.step {ss : List SN} {n : Nat} {st : Nat → Int} {L L' : List (Option Int)} {P R T : Nat} {v : Int} {nx : Option Int} (C : Clm ss n st L P (some v)) (ok : OkL n ss) (hR : ∀ d, R.testBit d = true ↔ d < n ∧ st d ≤ v)
    (hT1 : T < 2 ^ n) (hT2 : Sub T R) (hT3 : ∀ s ∈ ss, stab P T s) (hT4 : ∀ U, Sub U R → (∀ s ∈ ss, stab P U s) → Sub U T) (hL1 : L'.length = n) (hL2 : ∀ d, lk L' d = if (minus T P).testBit d = true then some v else lk L d)
    (hn1 : T ≠ P → nx = some (v + 1)) (hn16 : n ≤ 16) (hn2 : T = P → (∀ w, nx = some w → v < w ∧ (∃ d, d < n ∧ st d = w) ∧ ∀ d, d < n → v < st d → w ≤ st d) ∧ (nx = none → ∀ d, d < n → st d ≤ v)) : Clm ss n st L' T nx ∧ Sub P T := by
  have hPR : Sub P R := fun d hd => by
    obtain ⟨y, hy⟩ := (C.p d).mp hd
    have := C.b v rfl d y hy
    have := C.sg d y hy
    exact (hR d).mpr ⟨bit_lt C.lt hd, by omega⟩
  have hPT : Sub P T := hT4 P hPR fun s hs hh => by
    obtain ⟨h, h1, h2⟩ := and_ne.mp hh
    obtain ⟨y, hy⟩ := (C.p h).mp h2
    obtain ⟨l, l1, x, l2, _⟩ := C.sa s hs h h1 y hy
    refine and_ne.mpr ⟨l, l1, ?_⟩
    have := (C.p l).mpr ⟨x, l2⟩
    cases s.u <;> exact this
  have eL : ∀ d, (P.testBit d = true → lk L' d = lk L d) ∧ (T.testBit d = true → P.testBit d = false → lk L' d = some v) ∧ (T.testBit d = false → lk L' d = none) := fun d => by
    rw [hL2, minus_bit]
    refine ⟨fun h => ?_, fun h1 h2 => ?_, fun h => ?_⟩
    · rw [h]; simp
    · rw [h1, h2]; simp
    · rw [h]
      have : P.testBit d = false := by
        cases hp : P.testBit d with
        | false => rfl
        | true => rw [hPT d hp] at h; cases h
      cases hl : lk L d with
      | none => simp
      | some y => rw [(C.p d).mpr ⟨y, hl⟩] at this; cases this
  have hp' : ∀ d, T.testBit d = true ↔ ∃ y, lk L' d = some y := fun d => by
    constructor
    · intro h
      cases hp : P.testBit d with
      | true => obtain ⟨y, hy⟩ := (C.p d).mp hp; exact ⟨y, ((eL d).1 hp).trans hy⟩
      | false => exact ⟨v, (eL d).2.1 h hp⟩
    · rintro ⟨y, hy⟩
      cases hT : T.testBit d with
      | true => rfl
      | false => rw [(eL d).2.2 hT] at hy; cases hy
  -- what an entry is
  have ent : ∀ d y, lk L' d = some y → (P.testBit d = true ∧ lk L d = some y) ∨ (P.testBit d = false ∧ T.testBit d = true ∧ y = v) := fun d y hy => by
    have hT := (hp' d).mpr ⟨y, hy⟩
    cases hp : P.testBit d with
    | true => exact .inl ⟨rfl, by rw [← (eL d).1 hp]; exact hy⟩
    | false =>
      rw [(eL d).2.1 hT hp] at hy
      exact .inr ⟨rfl, hT, (Option.some.inj hy).symm⟩
  have le_v : ∀ d y, lk L' d = some y → y ≤ v := fun d y hy => by
    rcases ent d y hy with ⟨_, h⟩ | ⟨_, _, h⟩
    · exact Int.le_of_lt (C.b v rfl d y h)
    · omega
  have gt : ∀ w, nx = some w → v < w := fun w hw => by
    by_cases h : T = P
    · exact ((hn2 h).1 w hw).1
    · rw [hn1 h] at hw
      cases hw
      omega
  have above : ∀ g, Val ss n st g → ∀ d, d < n → T.testBit d = false → ∀ y, g d = some y → v < y := fun g hg d hd hTd y hy => by
    refine Int.not_le.mp fun z => ?_
    have := C.below_sub ok hT4 hg (m := v) (fun d hd y hy hyv => (hR d).mpr ⟨hd, Int.le_trans (hg.st d hd y hy) hyv⟩) (fun d hd hl y hy => by
      obtain ⟨w, e, h⟩ := (C.m g hg d hd y hy).2 hl
      cases e
      exact h) d (below_bit.mpr ⟨hd, y, hy, z⟩)
    rw [hTd] at this
    cases this
  refine ⟨⟨hL1, hT1, hp', fun d y hy => ?_, fun w hw d y hy => ?_, fun s hs h hh y hy => ?_, fun g hg d hd y hy => ⟨fun x hx => ?_, fun hl => ?_⟩, fun hz => ?_, fun hz => ?_⟩, hPT⟩
  · rcases ent d y hy with ⟨_, h⟩ | ⟨_, h, e⟩
    · exact C.sg d y h
    · have := (hR d).mp (hT2 d h)
      omega
  · have := le_v d y hy
    have := gt w hw
    omega
  · rcases ent h y hy with ⟨hp, h1⟩ | ⟨hp, h1, e⟩
    · obtain ⟨l, l1, x, l2, l3⟩ := C.sa s hs h hh y h1
      exact ⟨l, l1, x, by rw [(eL l).1 ((C.p l).mpr ⟨x, l2⟩)]; exact l2, l3⟩
    · obtain ⟨l, l1, l2⟩ := and_ne.mp (hT3 s hs (and_ne.mpr ⟨h, hh, h1⟩))
      rcases step_cases s with ⟨hu, hst⟩ | ⟨hu, hst⟩
      · rw [hu] at l2
        obtain ⟨x, hx⟩ := (C.p l).mp l2
        have := C.b v rfl l x hx
        exact ⟨l, l1, x, ((eL l).1 l2).trans hx, by omega⟩
      · rw [hu] at l2
        obtain ⟨x, hx⟩ := (hp' l).mp l2
        have := le_v l x hx
        exact ⟨l, l1, x, hx, by omega⟩
  · rcases ent d x hx with ⟨_, h⟩ | ⟨hp, h, e⟩
    · exact (C.m g hg d hd y hy).1 x h
    · have hl : lk L d = none := by
        cases hl : lk L d with
        | none => rfl
        | some z => rw [(C.p d).mpr ⟨z, hl⟩] at hp; cases hp
      obtain ⟨w, e2, h2⟩ := (C.m g hg d hd y hy).2 hl
      cases e2
      omega
  · have hTd : T.testBit d = false := by
      cases h : T.testBit d with
      | false => rfl
      | true => obtain ⟨z, hz⟩ := (hp' d).mp h; rw [hl] at hz; cases hz
    have hvy := above g hg d hd hTd y hy
    by_cases hTP : T = P
    · -- no day was placed: up to the next start none can be
      by_cases hw : ∃ w, nx = some w ∧ w ≤ y
      · exact hw
      exfalso
      have hnst : ∀ e, e < n → ∀ z, g e = some z → z ≤ y → st e ≤ v := fun e he z hz hzy => by
        refine Int.not_lt.mp fun q => hw ?_
        cases hx : nx with
        | none => exact absurd ((hn2 hTP).2 hx e he) (by omega)
        | some w =>
          have := ((hn2 hTP).1 w hx).2.2 e he q
          have := hg.st e he z hz
          exact ⟨w, rfl, by omega⟩
      -- the least of those that are not placed
      have least : ∃ d0 m, d0 < n ∧ T.testBit d0 = false ∧ g d0 = some m ∧ m ≤ y ∧ ∀ e, e < n → T.testBit e = false → ∀ z, g e = some z → m ≤ z := by
        have key : ∀ k : Nat, ∀ d y, d < n → T.testBit d = false → g d = some y → (y - v).toNat ≤ k → ∃ d0 m, d0 < n ∧ T.testBit d0 = false ∧ g d0 = some m ∧ m ≤ y ∧ ∀ e, e < n → T.testBit e = false → ∀ z, g e = some z → m ≤ z := fun k => by
          induction k with
          | zero => exact fun d y h1 h2 h3 h4 => absurd (above g hg d h1 h2 y h3) (by omega)
          | succ k ih =>
            intro d y h1 h2 h3 h4
            by_cases hs : ∃ e z, e < n ∧ T.testBit e = false ∧ g e = some z ∧ z < y
            · obtain ⟨e, z, e1, e2, e3, e4⟩ := hs
              obtain ⟨d0, m, a1, a2, a3, a4, a5⟩ := ih e z e1 e2 e3 (by have := above g hg e e1 e2 z e3; omega)
              exact ⟨d0, m, a1, a2, a3, by omega, a5⟩
            · exact ⟨d, y, h1, h2, h3, Int.le_refl _, fun e e1 e2 z e3 => Int.not_lt.mp fun q => hs ⟨e, z, e1, e2, e3, q⟩⟩
        exact key _ d y hd hTd hy (Nat.le_refl _)
      obtain ⟨d0, m, a1, a2, a3, a4, a5⟩ := least
      have := C.below_sub ok hT4 hg (m := m) (fun e he z hz hzm => (hR e).mpr ⟨he, hnst e he z hz (by omega)⟩) (fun e he hl z hz => a5 e he (by
        cases h : T.testBit e with
        | false => rfl
        | true =>
          rw [hTP] at h
          obtain ⟨q, hq⟩ := (C.p e).mp h
          rw [hl] at hq; cases hq) z hz) d0 (below_bit.mpr ⟨a1, m, a3, Int.le_refl _⟩)
      rw [a2] at this
      cases this
    · exact ⟨v + 1, hn1 hTP, by omega⟩
  · obtain ⟨g0, g1⟩ := C.g hz
    have gv := g0 v rfl
    have hT16 : T < 2 ^ 16 := Nat.lt_of_lt_of_le hT1 (Nat.pow_le_pow_right (by omega) hn16)
    have hadd : P + minus T P = T := by
      have h3 := minus_add T P
      have h4 : T &&& P = P := by
        refine Nat.eq_of_testBit_eq fun i => ?_
        rw [Nat.testBit_and]
        cases hi : P.testBit i with
        | true => rw [hPT i hi]; rfl
        | false => simp
      rwa [h4] at h3
    refine ⟨fun w hw => ?_, fun d y hd => ?_⟩
    · by_cases hTP : T = P
      · obtain ⟨_, ⟨d, hd, hw2⟩, _⟩ := (hn2 hTP).1 w hw
        rw [hz d hd] at hw2
        omega
      · rw [hn1 hTP] at hw
        cases hw
        omega
    · rcases ent d y hd with ⟨_, h⟩ | ⟨_, _, e⟩
      · exact g1 d y h
      · omega
  · obtain ⟨f0, f1⟩ := C.f hz
    have hv0 := f0 v rfl
    refine ⟨fun w hw => by have := gt w hw; omega, fun k hk h1 h2 => ?_⟩
    have old : k < v → ∃ d, lk L' d = some k := fun h => by
      obtain ⟨d, hd⟩ := f1 k hk (fun w e => by cases e; exact h) nofun
      exact ⟨d, ((eL d).1 ((C.p d).mpr ⟨k, hd⟩)).trans hd⟩
    by_cases hTP : T = P
    · cases hx : nx with
      | some w =>
        obtain ⟨hw1, ⟨d, hd, hw2⟩, _⟩ := (hn2 hTP).1 w hx
        rw [hz d hd] at hw2
        omega
      | none =>
        obtain ⟨d, y, hd, hky⟩ := h2 hx
        rcases ent d y hd with ⟨_, h⟩ | ⟨hp, h, _⟩
        · have := C.b v rfl d y h
          exact old (by omega)
        · rw [hTP, hp] at h; cases h
    · have h1 := h1 (v + 1) (hn1 hTP)
      by_cases hkv : k < v
      · exact old hkv
      · have hk : k = v := by omega
        subst hk
        have : ∃ d, T.testBit d = true ∧ P.testBit d = false := by
          by_cases z : ∃ d, T.testBit d = true ∧ P.testBit d = false
          · exact z
          · refine (hTP (Nat.eq_of_testBit_eq fun i => ?_)).elim
            cases h3 : T.testBit i with
            | true =>
              cases h4 : P.testBit i with
              | true => rfl
              | false => exact (z ⟨i, h3, h4⟩).elim
            | false =>
              cases h4 : P.testBit i with
              | false => rfl
              | true => rw [hPT i h4] at h3; cases h3
        obtain ⟨d, h3, h4⟩ := this
        exact ⟨d, (eL d).2.1 h3 h4⟩
end TW
set_option Elab.async false
set_option maxRecDepth 100000
set_option maxHeartbeats 1000000
set_option linter.all false
set_option autoImplicit false
/-! lifting: the whole climb -/
namespace TW
open Pa (rep)
open PaL (repL)
open PySem PySem.Spec PyProof.Rows L2 My
abbrev ClS := List (Option Int) × List (Option Int) × List Int × Int × Option Int
def stOf (l : List Int) (d : Nat) : Int := lay ⟨⟨l⟩⟩ d
theorem stOf_mem {l : List Int} {d : Nat} (h : d < l.length) : stOf l d ∈ l := by
  unfold stOf lay
  simp [h]
theorem mem_stOf {l : List Int} {x : Int} (h : x ∈ l) : ∃ d, d < l.length ∧ stOf l d = x := by
  obtain ⟨d, hd, e⟩ := List.mem_iff_getElem.mp h
  exact ⟨d, hd, by unfold stOf lay; simp [hd, e]⟩
/-- the days that are let in -/
theorem g_room (l : List Int) (v : Int) (hz : l.length ≤ 16) : ∃ R : Nat, (∀ d, R.testBit d = true ↔ d < l.length ∧ stOf l d ≤ v) ∧ R < 2 ^ l.length ∧
    Gv (compW (fun x : T2 Int Int => W.get (some v) >>= fun b => (pure (decide (x.b ≤ b)) : W Bool)) (fun x : T2 Int Int => (pure x.a : W Int)) (enumL l) >>= fun a => w_set_of ⟨a⟩) (R : Int) := by
  refine ⟨setN ((List.range l.length).filter fun d => decide (stOf l d ≤ v)), fun d => ?_, ?_, ?_⟩
  · rw [setN_bit, decide_eq_true_iff, List.mem_filter, List.mem_range, decide_eq_true_iff]
  · exact or_all_lt _ _ _ (fun d hd => List.mem_range.mp (List.mem_filter.mp hd).1) (Nat.pow_pos (by decide))
  · rw [enum_range]
    refine Gv.bind (Gv.comp (tb := fun x : T2 Int Int => decide (x.b ≤ v)) (eb := fun x : T2 Int Int => x.a) (fun x _ => (Gv.get rfl).bind Gv.ret) fun x _ _ => Gv.ret) ?_
    rw [List.filter_map, List.map_map]
    exact (g_set_of _ fun d hd => by have := List.mem_range.mp (List.mem_filter.mp hd).1; omega)
def muF (l : List Int) (p : Int) : Option Int → Nat
  | none => 0
  | some v => 1 + (2 ^ 16 - p.toNat) * 17 + (l.filter fun x => decide (v < x)).length
def muC (l : List Int) (s : ClS) : Nat := muF l s.2.2.2.1 s.2.2.2.2
theorem r_climb (ss : List SN) (l : List Int) (h1 : l ≠ []) (hz : l.length ≤ 16) (ok : OkL l.length ss) (hss : ss.length ≤ 1000) :
    Rn (w_climb ⟨ss.map SN.sy⟩ ⟨l⟩) fun r => ∃ P, Clm ss l.length (stOf l) r.a.l P none ∧ r.b.l.length = l.length ∧ r.c.l.length = l.length := by
  have hp : 0 < l.length := List.length_pos_iff.mpr h1
  have repl : ∀ {α : Type} (a : α), (List.replicate ((l.length : Nat) : Int).toNat [a]).flatten = List.replicate l.length a := fun a => by
    rw [Int.toNat_natCast]
    generalize l.length = n
    induction n with
    | zero => rfl
    | succ n ih => rw [List.replicate_succ, List.flatten_cons, ih]; rfl
  unfold w_climb
  simp only [pb, ba, sq_nx, sq_rt, sq_b, fR_rt, fR_b, fN_nx, fN_b, setW, retW, dropW]
  refine Rn.need (by rw [sizeLine_eq]; exact Nat.le_of_ble_eq_true rfl) (Rn.need ⟨by omega, by omega, by rw [Int.toNat_natCast, sizeLine_eq]; simp; omega⟩ (Rn.need (by rw [sizeLine_eq]; exact Nat.le_of_ble_eq_true rfl) (Rn.need ⟨by omega, by omega, by rw [Int.toNat_natCast, sizeLine_eq]; simp; omega⟩ (Rn.need (by rw [sizeLine_eq]; exact Nat.le_of_ble_eq_true rfl) (Rn.need ⟨by omega, by omega, by rw [Int.toNat_natCast, sizeLine_eq]; simp; omega⟩ (Rn.need h1 ?_))))))
  rw [repl, repl]
  refine Rn.fR (Rn.seq (T := fun s : ClS => ∃ P, Clm ss l.length (stOf l) s.1 P none ∧ s.2.1.length = l.length ∧ s.2.2.1.length = l.length) ((Rn.while (fun s : ClS => ∃ P : Nat, s.2.2.2.1 = (P : Int) ∧ Clm ss l.length (stOf l) s.1 P s.2.2.2.2 ∧ s.2.1.length = l.length ∧ s.2.2.1.length = l.length) (muC l) (fun s => s.2.2.2.2.isSome) (fun s _ => Gv.ret) ⟨0, rfl, ?_, by simp, by simp⟩ ?_).mono ?_) ?_)
  · refine ⟨by simp, Nat.pow_pos (by decide), fun d => ?_, fun d y hy => ?_, fun v _ d y hy => ?_, fun s _ h _ y hy => ?_, fun g hg d hd y hy => ⟨fun x hx => ?_, fun _ => ⟨_, rfl, ?_⟩⟩, fun hz0 => ?_, fun hz0 => ?_⟩
    · rw [Nat.zero_testBit, lk_rep]; simp
    · rw [lk_rep] at hy; cases hy
    · rw [lk_rep] at hy; cases hy
    · rw [lk_rep] at hy; cases hy
    · rw [lk_rep] at hx; cases hx
    · exact Int.le_trans (minL_le (stOf_mem hd)) (hg.st d hd y hy)
    · have hm : minL l = 0 := by
        obtain ⟨d, hd, e⟩ := mem_stOf (minL_mem h1)
        rw [← e, hz0 d hd]
      exact ⟨fun v e => by cases e; rw [hm]; decide, fun d y hd => by rw [lk_rep] at hd; cases hd⟩
    · have hm : minL l = 0 := by
        obtain ⟨d, hd, e⟩ := mem_stOf (minL_mem h1)
        rw [← e, hz0 d hd]
      refine ⟨fun v e => by cases e; omega, fun k hk hlt _ => ?_⟩
      have := hlt _ rfl
      omega
  · rintro s ⟨P, e1, C, l1, l2⟩ hs
    obtain ⟨v, hv⟩ := Option.isSome_iff_exists.mp (show s.2.2.2.2.isSome = true from hs)
    rw [hv] at C
    obtain ⟨R, hR, hRlt, gR⟩ := g_room l v hz
    rw [hv, e1]
    refine Rn.need (enum_len _ hz) ?_
    show Rn ((compW (fun x : T2 Int Int => W.get (some v) >>= fun b => (pure (decide (x.b ≤ b)) : W Bool)) (fun x : T2 Int Int => (pure x.a : W Int)) (enumL l) >>= fun a => w_set_of ⟨a⟩) >>= _) _
    refine Gv.bindR gR ?_
    refine ((r_stay ss R P s.2.1 s.2.2.1 l.length hz hRlt l1 l2 hss).quiet).bind ?_
    rintro r ⟨T, t1, t2, t3, t4, t5, t6, t7⟩
    rw [t1, minus_eq]
    have hX : minus T P < 2 ^ l.length := by
      have := minus_add T P
      omega
    have hXi : ∀ d, (minus T P).testBit d = true → T.testBit d = true := fun d h => by
      rw [minus_bit, Bool.and_eq_true] at h
      exact h.1
    refine Gv.bindR (g_days_in _ (Nat.lt_of_lt_of_le hX (Nat.pow_le_pow_right (by omega) hz))) ?_
    refine Rn.seq (T := fun L' : List (Option Int) => L'.length = l.length ∧ ∀ d, lk L' d = if (minus T P).testBit d = true then some v else lk s.1 d) ((r_place _ l.length v s.1 hz hX C.len (fun _ _ => rfl)).mono fun r ⟨L', e, h⟩ => ⟨L', e, h⟩) ?_
    rintro L' ⟨hL1, hL2⟩
    refine Gv.bindR (g_behind v l (!pyEq (T : Int) (P : Int)) hz) ?_
    have hpe : pyEq (T : Int) (P : Int) = decide (T = P) := by rw [pyEq_ii]; exact decide_eq_decide.mpr (by omega)
    rw [hpe]
    generalize hnx : (if (!decide (T = P)) = true then some (v + 1) else minO (l.filter fun x => decide (v < x))) = nx
    have n1 : T ≠ P → nx = some (v + 1) := fun h => by rw [← hnx, decide_eq_false h]; rfl
    have n2 : T = P → nx = minO (l.filter fun x => decide (v < x)) := fun h => by rw [← hnx, decide_eq_true h]; rfl
    have n3 : T = P → ∀ w, nx = some w → w ∈ l ∧ v < w ∧ ∀ x ∈ l, v < x → w ≤ x := fun h w hw => by
      rw [n2 h] at hw
      obtain ⟨a, b⟩ := minO_spec hw
      obtain ⟨a1, a2⟩ := List.mem_filter.mp a
      exact ⟨a1, of_decide_eq_true a2, fun x hx hxv => b x (List.mem_filter.mpr ⟨hx, decide_eq_true hxv⟩)⟩
    have n4 : T = P → nx = none → ∀ x ∈ l, x ≤ v := fun h hw x hx => by
      rw [n2 h] at hw
      refine Int.not_lt.mp fun q => ?_
      have : (l.filter fun x => decide (v < x)) ≠ [] := List.ne_nil_of_mem (List.mem_filter.mpr ⟨hx, decide_eq_true q⟩)
      unfold minO at hw
      rw [if_neg this] at hw
      cases hw
    obtain ⟨C', hPT⟩ := C.step (nx := nx) ok hR t2 t3 t4 t5 hL1 hL2 n1 hz fun h => ⟨fun w hw => by
      obtain ⟨a, b, c⟩ := n3 h w hw
      exact ⟨b, mem_stOf a, fun d hd q => c _ (stOf_mem hd) q⟩, fun hw d hd => n4 h hw _ (stOf_mem hd)⟩
    refine Rn.ret ⟨_, rfl, ⟨T, rfl, C', t6, t7⟩, ?_⟩
    have hT16 : T < 2 ^ 16 := Nat.lt_of_lt_of_le t2 (Nat.pow_le_pow_right (by omega) hz)
    have hP16 : P < 2 ^ 16 := Nat.lt_of_lt_of_le C.lt (Nat.pow_le_pow_right (by omega) hz)
    have goal : muF l (T : Int) nx < muF l (P : Int) (some v) := by
      show muF l (T : Int) nx < 1 + (2 ^ 16 - (P : Int).toNat) * 17 + (l.filter fun x => decide (v < x)).length
      rw [Int.toNat_natCast]
      cases hx : nx with
      | none => show 0 < _; omega
      | some w =>
        show 1 + (2 ^ 16 - (T : Int).toNat) * 17 + (l.filter fun x => decide (w < x)).length < 1 + (2 ^ 16 - P) * 17 + (l.filter fun x => decide (v < x)).length
        rw [Int.toNat_natCast]
        by_cases hTP : T = P
        · obtain ⟨a, b, c⟩ := n3 hTP w hx
          have hlen : (l.filter fun x => decide (w < x)).length < (l.filter fun x => decide (v < x)).length := by
            have hsub : ∀ (xs : List Int), (xs.filter fun x => decide (w < x)).length ≤ (xs.filter fun x => decide (v < x)).length ∧ (w ∈ xs → (xs.filter fun x => decide (w < x)).length < (xs.filter fun x => decide (v < x)).length) := fun xs => by
              induction xs with
              | nil => exact ⟨Nat.le_refl _, nofun⟩
              | cons x xs ih =>
                rw [List.filter_cons, List.filter_cons]
                by_cases q1 : w < x
                · have q2 : v < x := by omega
                  rw [decide_eq_true q1, decide_eq_true q2, if_pos rfl, if_pos rfl, List.length_cons, List.length_cons]
                  refine ⟨by omega, fun m => ?_⟩
                  rcases List.mem_cons.mp m with e | e
                  · omega
                  · have := ih.2 e; omega
                · rw [decide_eq_false q1, if_neg Bool.false_ne_true]
                  by_cases q2 : v < x
                  · rw [decide_eq_true q2, if_pos rfl, List.length_cons]
                    exact ⟨by omega, fun _ => by omega⟩
                  · rw [decide_eq_false q2, if_neg Bool.false_ne_true]
                    refine ⟨ih.1, fun m => ?_⟩
                    rcases List.mem_cons.mp m with e | e
                    · omega
                    · exact ih.2 e
            exact (hsub l).2 a
          rw [hTP]
          omega
        · have hlt : P < T := by
            have h3 := minus_add T P
            have h4 : T &&& P = P := by
              refine Nat.eq_of_testBit_eq fun i => ?_
              rw [Nat.testBit_and]
              cases hi : P.testBit i with
              | true => rw [hPT i hi]; rfl
              | false => simp
            rw [h4] at h3
            have : minus T P ≠ 0 := fun z => hTP (by omega)
            omega
          have hc : (l.filter fun x => decide (w < x)).length ≤ 16 := Nat.le_trans (List.length_filter_le _ _) hz
          omega
    show muF l (T : Int) nx < muF l s.2.2.2.1 s.2.2.2.2
    rw [hv, e1]
    exact goal
  · rintro r ⟨s, e, ⟨P, _, C, a, b⟩, hs⟩
    have hn : s.2.2.2.2 = none := by
      cases h : s.2.2.2.2 with
      | none => rfl
      | some v =>
        have : s.2.2.2.2.isSome = false := hs
        rw [h] at this
        cases this
    rw [hn] at C
    exact ⟨s, e, P, C, a, b⟩
  · rintro s ⟨P, C, a, b⟩
    exact Rn.ret ⟨_, rfl, P, C, a, b⟩
end TW
set_option Elab.async false
set_option maxRecDepth 100000
set_option maxHeartbeats 1000000
set_option linter.all false
set_option autoImplicit false
/-! lift -/
namespace TW
open Pa (rep)
open PaL (repL)
open PySem PySem.Spec PyProof.Rows L2 My
theorem g_l_marks2 (n : Nat) (h : Dc n) : ∃ ns k, Gv (w_l_marks n) ⟨ns, k, (n : Int), ((2 ^ n - 1 : Nat) : Int)⟩ := by
  have key : ∀ k : Nat, k < 4 → n = 2 ^ (k + 1) → Gv (w_l_marks n) ⟨⟨names4.take (k + 1)⟩, ((names4.take (k + 1)).length : Int), 1 * 2 ^ (names4.take (k + 1)).length, 1 * 2 ^ (1 * 2 ^ (names4.take (k + 1)).length) - 1⟩ := fun k hk e => by
    unfold w_l_marks
    simp only [pb, ba, sq_nx, sq_rt, sq_b, fR_rt, fR_b, fN_nx, fN_b, setW, retW, dropW]
    have hm : ((n : Nat) : Int) ∈ ([2, 4, 8, 16] : List Int) := by rcases h with h | h | h | h <;> subst h <;> decide
    have hi : (([2, 4, 8, 16] : List Int).idxOf ((n : Nat) : Int) : Int) + 1 = ((k + 1 : Nat) : Int) := by
      rcases k with _ | _ | _ | _ | k
      · subst e; decide
      · subst e; decide
      · subst e; decide
      · subst e; decide
      · omega
    refine Gv.need' (by decide) (Gv.need' (by decide) (Gv.need' hm ?_))
    rw [hi, cut_take]
    refine (g_marks (names4.take (k + 1)) ?_ (fun s hs => g_fault s (List.mem_of_mem_take hs)) ?_).bind Gv.ret
    · rw [List.length_take]
      show 1 ≤ min (k + 1) 4 ∧ min (k + 1) 4 ≤ 4
      omega
    · exact (List.take_sublist _ _).nodup (by decide)
  rcases h with h | h | h | h
  · exact ⟨_, _, (key 0 (by omega) h).cast (by subst h; rfl)⟩
  · exact ⟨_, _, (key 1 (by omega) h).cast (by subst h; rfl)⟩
  · exact ⟨_, _, (key 2 (by omega) h).cast (by subst h; rfl)⟩
  · exact ⟨_, _, (key 3 (by omega) h).cast (by subst h; rfl)⟩
theorem g_init_T (l : List Int) (h : Lay l) : Gv (w_Order__init_Ti ⟨l⟩) ⟨⟨l⟩⟩ := by
  unfold w_Order__init_Ti wb_Order__init_Ti
  simp only [pb, ba, sq_nx, sq_rt, sq_b, sq_i, sq_f, fR_rt, fR_b, fR_i, fR_f, fN_nx, fN_b, fN_i, fN_f, fI_nx, fI_b, fI_i, fI_f, i_b, f_b, if_true, if_false, Bool.false_eq_true, Bool.not_true, Bool.not_false, setW, retW, dropW, ifW, reduceIte]
  refine Gv.bind (a := ()) ?_ ?_
  · unfold w_check_layers_Ti
    simp only [pb, ba, sq_nx, sq_rt, sq_b, sq_i, sq_f, fR_rt, fR_b, fR_i, fR_f, fN_nx, fN_b, fN_i, fN_f, fI_nx, fI_b, fI_i, fI_f, i_b, f_b, if_true, if_false, Bool.false_eq_true, Bool.not_true, Bool.not_false, setW, retW, dropW, ifW, reduceIte]
    have e : inF ((l.length : Nat) : Int) c_DAY_COUNTS.l = true := by
      rw [inF_ii]
      refine decide_eq_true ?_
      unfold c_DAY_COUNTS
      rcases h.n with h | h | h | h <;> rw [h] <;> decide
    rw [e]
    simp only [pb, ba, sq_nx, sq_rt, sq_b, sq_i, sq_f, fR_rt, fR_b, fR_i, fR_f, fN_nx, fN_b, fN_i, fN_f, fI_nx, fI_b, fI_i, fI_f, i_b, f_b, if_true, if_false, Bool.false_eq_true, Bool.not_true, Bool.not_false, setW, retW, dropW, ifW, reduceIte]
    refine Gv.fN (s := ()) (Gv.seq (s := ()) (Gv.for (g := fun s _ => s) fun x u hx => ?_) Gv.ret)
    obtain ⟨h0, h1⟩ := h.b x hx
    rw [e_is_whole, decide_eq_true h0, decide_eq_true h1]
    exact Gv.ret
  · rw [inF_ii, decide_eq_true h.z]
    exact Gv.ret
theorem allSome_of : ∀ (L : List (Option Int)), (∀ d, d < L.length → ∃ y, lk L d = some y) → ∃ lo : List Int, allSome L = some lo ∧ L = lo.map some
  | [], _ => ⟨[], rfl, rfl⟩
  | a :: L, h => by
    obtain ⟨lo, e1, e2⟩ := allSome_of L fun d hd => by
      obtain ⟨y, hy⟩ := h (d + 1) (by simpa using hd)
      exact ⟨y, by unfold lk at hy ⊢; simpa using hy⟩
    obtain ⟨y, hy⟩ := h 0 (by simp)
    have ha : a = some y := by unfold lk at hy; simpa using hy
    subst ha
    refine ⟨y :: lo, ?_, by rw [e2]; rfl⟩
    unfold allSome
    rw [e1]
    rfl
theorem g_check_days0 (m : Marks) : Gv (w_check_days m ⟨[]⟩) () := by
  unfold w_check_days w_check_fitting
  simp only [pb, ba, sq_nx, sq_rt, sq_b, fR_rt, fR_b, fN_nx, fN_b, setW, retW, dropW]
  exact Gv.bind (a := ()) (Gv.bind (a := .nx ()) Gv.ret Gv.ret) Gv.ret
/-- what lift gives: the least order, or that there is none -/
structure Told (ss : List SN) (n : Nat) (r : Sm2 Lifted Stuck) (L : List (Option Int)) (P : Nat) : Prop where
  c : Clm ss n (fun _ => 0) L P none
  a : (∀ d, d < n → ∃ y, lk L d = some y) → ∃ x lo, r = .a x ∧ x.order = ⟨⟨lo⟩⟩ ∧ L = lo.map some ∧ Lay lo ∧ lo.length = n
  b : ¬ (∀ d, d < n → ∃ y, lk L d = some y) → ∃ x, r = .b x
theorem enum_opt (L : List (Option Int)) : enumL L = (List.range L.length).map fun d : Nat => (⟨(d : Int), lk L d⟩ : T2 Int (Option Int)) := by
  unfold enumL
  refine List.ext_getElem? fun i => ?_
  rw [List.getElem?_map, List.getElem?_map, List.getElem?_zipIdx]
  by_cases h : i < L.length
  · rw [List.getElem?_eq_getElem h, List.getElem?_range h]
    simp [lk, h]
  · rw [List.getElem?_eq_none (by omega), List.getElem?_eq_none (by simp; omega)]
    rfl
theorem Clm.cong {ss : List SN} {n : Nat} {f g : Nat → Int} {L : List (Option Int)} {P : Nat} {ly : Option Int} (C : Clm ss n f L P ly) (h : ∀ d, d < n → f d = g d) : Clm ss n g L P ly := by
  have lt : ∀ d y, lk L d = some y → d < n := fun d y hy => by
    rw [← C.len]
    refine Nat.lt_of_not_le fun z => ?_
    unfold lk at hy
    rw [List.getElem?_eq_none z] at hy
    cases hy
  exact ⟨C.len, C.lt, C.p, fun d y hy => by rw [← h d (lt d y hy)]; exact C.sg d y hy, C.b, C.sa, fun k hk => C.m k ⟨hk.s, fun d hd y hy => by rw [h d hd]; exact hk.st d hd y hy⟩, fun hz => C.g fun d hd => by rw [h d hd]; exact hz d hd, fun hz => C.f fun d hd => by rw [h d hd]; exact hz d hd⟩
theorem r_lift (m : Marks) (n : Nat) (ss : List SN) (hn : Dc n) (hm : m.days = (n : Int)) (ok : OkL n ss) (hss : ss.length ≤ 1000) : Rn (w_lift ⟨m, ⟨ss.map SN.sy⟩⟩ ⟨[]⟩) fun r => ∃ L P, Told ss n r L P := by
  have hz := hn.le
  have hp := hn.pos
  unfold w_lift
  simp only [pb, ba, sq_nx, sq_rt, sq_b, fR_rt, fR_b, fN_nx, fN_b, setW, retW, dropW]
  rw [List.append_nil, hm]
  refine Gv.bindR (g_check_days0 m) (Rn.need (by rw [List.length_map, sizeLine_eq]; simp; omega) (Rn.need (by rw [sizeLine_eq]; exact Nat.le_of_ble_eq_true rfl) (Rn.need ⟨by omega, by omega, by rw [Int.toNat_natCast, sizeLine_eq]; simp; omega⟩ ?_)))
  have repl : (List.replicate ((n : Nat) : Int).toNat [(0 : Int)]).flatten = List.replicate n 0 := by
    rw [Int.toNat_natCast]
    generalize n = k
    induction k with
    | zero => rfl
    | succ k ih => rw [List.replicate_succ, List.flatten_cons, ih]; rfl
  rw [repl]
  have hl : (List.replicate n (0 : Int)).length = n := List.length_replicate
  refine (r_climb ss (List.replicate n 0) (fun z => by rw [z] at hl; simp at hl; omega) (by rw [hl]; exact hz) (by rw [hl]; exact ok) hss).bind ?_
  rintro ⟨⟨L⟩, ⟨rs⟩, ⟨hs⟩⟩ ⟨P, C, e1, e2⟩
  rw [hl] at C e1 e2
  have C := C.cong (g := fun _ => 0) fun d hd => by unfold stOf lay; simp [hd]
  refine Rn.need (by rw [enumL_len, C.len, sizeLine_eq]; omega) ?_
  rw [enum_opt, C.len]
  refine Gv.bindR (Gv.comp (tb := fun x : T2 Int (Option Int) => x.b.isNone) (eb := fun x : T2 Int (Option Int) => x.a) (fun x _ => Gv.ret) fun x _ _ => Gv.ret) ?_
  rw [List.filter_map, List.map_map]
  generalize hds : (List.range n).filter ((fun x : T2 Int (Option Int) => x.b.isNone) ∘ fun d : Nat => (⟨(d : Int), lk L d⟩ : T2 Int (Option Int))) = ds
  have mds : ∀ d, d ∈ ds ↔ d < n ∧ lk L d = none := fun d => by
    rw [← hds, List.mem_filter, List.mem_range]
    show d < n ∧ (lk L d).isNone = true ↔ _
    rw [Option.isNone_iff_eq_none]
  show Rn (w_set_of ⟨ds.map Int.ofNat⟩ >>= _) _
  refine Gv.bindR (g_set_of ds fun d hd => by have := ((mds d).mp hd).1; omega) ?_
  have hzero : setN ds = 0 ↔ ∀ d, d < n → ∃ y, lk L d = some y := by
    constructor
    · intro z d hd
      cases h : lk L d with
      | some y => exact ⟨y, rfl⟩
      | none =>
        have := setN_bit ds d
        rw [z, Nat.zero_testBit, decide_eq_true ((mds d).mpr ⟨hd, h⟩)] at this
        cases this
    · intro h
      refine Nat.eq_of_testBit_eq fun i => ?_
      rw [setN_bit, Nat.zero_testBit]
      refine decide_eq_false fun hi => ?_
      obtain ⟨h1, h2⟩ := (mds i).mp hi
      obtain ⟨y, hy⟩ := h i h1
      rw [h2] at hy
      cases hy
  rw [pyEq_ii]
  by_cases hall : ∀ d, d < n → ∃ y, lk L d = some y
  · have h0 := hzero.mpr hall
    rw [h0, decide_eq_true (show ((0 : Nat) : Int) = 0 from rfl), if_pos rfl]
    simp only [pb, ba, sq_nx, sq_rt, sq_b, fR_rt, fR_b, fN_nx, fN_b, setW, retW, dropW]
    obtain ⟨lo, a1, a2⟩ := allSome_of L fun d hd => hall d (by rw [← C.len]; exact hd)
    have hlen : lo.length = n := by rw [← C.len, a2, List.length_map]
    have hlk : ∀ d, lk L d = lo[d]? := fun d => by
      rw [a2]
      unfold lk
      rw [List.getElem?_map]
      cases lo[d]? <;> rfl
    have ly : Lay lo := by
      refine ⟨by rw [hlen]; exact hn, fun x hx => ?_, ?_⟩
      · obtain ⟨d, hd⟩ := List.mem_iff_getElem?.mp hx
        have hd := (hlk d).trans hd
        have h1 := C.sg d x hd
        have h2 := (C.g fun _ _ => rfl).2 d x hd
        have h1 : (0 : Int) ≤ x := h1
        omega
      · obtain ⟨y, hy⟩ := hall 0 hp
        obtain ⟨d, hd⟩ := (C.f fun _ _ => rfl).2 0 (Int.le_refl _) nofun fun _ => ⟨0, y, hy, C.sg 0 y hy⟩
        exact List.mem_of_getElem? ((hlk d).symm.trans hd)
    refine (Gv.get a1).bindR (Gv.bindR (g_init_T lo ly) ?_)
    unfold w_Lifted__init wb_Lifted__init
    simp only [pb, ba, sq_nx, sq_rt, sq_b, sq_i, sq_f, fR_rt, fR_b, fR_i, fR_f, fN_nx, fN_b, fN_i, fN_f, fI_nx, fI_b, fI_i, fI_f, i_b, f_b, if_true, if_false, Bool.false_eq_true, Bool.not_true, Bool.not_false, setW, retW, dropW, ifW, reduceIte]
    exact Rn.ret ⟨L, P, C, fun _ => ⟨_, lo, rfl, rfl, a2, ly, hlen⟩, fun h => (h hall).elim⟩
  · have h0 : ¬ ((setN ds : Nat) : Int) = 0 := fun z => hall (hzero.mp (by omega))
    rw [decide_eq_false h0, if_neg Bool.false_ne_true]
    simp only [pb, ba, sq_nx, sq_rt, sq_b, fR_rt, fR_b, fN_nx, fN_b, setW, retW, dropW]
    refine Rn.need (by rw [zipL_len, sizeLine_eq]; have : L.length = n := C.len; show min L.length rs.length ≤ _; omega) ?_
    refine Gv.bindR (Gv.all (eb := fun x : T2 (Option Int) (Option Int) => if x.a.isNone = true then x.b else none) fun x _ => ?_) ?_
    · show Gv (if x.a.isNone = true then pure x.b else pure none) _
      cases x.a <;> exact Gv.ret
    · unfold w_Stuck__init wb_Stuck__init
      simp only [pb, ba, sq_nx, sq_rt, sq_b, sq_i, sq_f, fR_rt, fR_b, fR_i, fR_f, fN_nx, fN_b, fN_i, fN_f, fI_nx, fI_b, fI_i, fI_f, i_b, f_b, if_true, if_false, Bool.false_eq_true, Bool.not_true, Bool.not_false, setW, retW, dropW, ifW, reduceIte]
      exact Rn.ret ⟨L, P, C, fun h => (hall h).elim, fun _ => ⟨_, rfl⟩⟩
end TW
set_option Elab.async false
set_option maxRecDepth 100000
set_option maxHeartbeats 1000000
set_option linter.all false
set_option autoImplicit false
/-! the lesser of two orders, orders without gaps, below -/
namespace TW
open Pa (rep)
open PaL (repL)
open PySem PySem.Spec PyProof.Rows L2 My
theorem g_check_length (a b : Order) (h : a.layers.l.length = b.layers.l.length) : Gv (w_Order_check_length a b) () := by
  unfold w_Order_check_length
  simp only [pb, ba, sq_nx, sq_rt, sq_b, sq_i, sq_f, fR_rt, fR_b, fR_i, fR_f, fN_nx, fN_b, fN_i, fN_f, fI_nx, fI_b, fI_i, fI_f, i_b, f_b, if_true, if_false, Bool.false_eq_true, Bool.not_true, Bool.not_false, setW, retW, dropW, ifW, reduceIte]
  rw [pyEq_ii, decide_eq_true (by omega)]
  exact Gv.ret
def andL (a b : List Int) : List Int := (zipL a b).map fun p => min p.a p.b
theorem g_and (a b : Order) (h : a.layers.l.length = b.layers.l.length) (hl : Lay (andL a.layers.l b.layers.l)) : Gv (w_Order__and a b) ⟨⟨andL a.layers.l b.layers.l⟩⟩ := by
  unfold w_Order__and
  simp only [pb, ba, sq_nx, sq_rt, sq_b, sq_i, sq_f, fR_rt, fR_b, fR_i, fR_f, fN_nx, fN_b, fN_i, fN_f, fI_nx, fI_b, fI_i, fI_f, i_b, f_b, if_true, if_false, Bool.false_eq_true, Bool.not_true, Bool.not_false, setW, retW, dropW, ifW, reduceIte]
  refine (g_check_length a b h).bind (Gv.need' ?_ (Gv.bind (Gv.all (eb := fun p : T2 Int Int => min p.a p.b) fun p _ => Gv.ret) ?_))
  · have := hl.le
    unfold andL at this
    rw [List.length_map] at this
    rw [sizeLine_eq]
    omega
  · exact (g_init _ hl).bind Gv.ret
theorem g_beneath (a b : Order) (h : a.layers.l.length = b.layers.l.length) (hz : a.layers.l.length ≤ 16) : Gv (w_Order_beneath a b) ((zipL a.layers.l b.layers.l).all fun p => decide (p.a ≤ p.b)) := by
  unfold w_Order_beneath
  simp only [pb, ba, sq_nx, sq_rt, sq_b, sq_i, sq_f, fR_rt, fR_b, fR_i, fR_f, fN_nx, fN_b, fN_i, fN_f, fI_nx, fI_b, fI_i, fI_f, i_b, f_b, if_true, if_false, Bool.false_eq_true, Bool.not_true, Bool.not_false, setW, retW, dropW, ifW, reduceIte]
  refine (g_check_length a b h).bind (Gv.need' ?_ (Gv.bind (Gv.all (eb := fun p : T2 Int Int => decide (p.a ≤ p.b)) fun p _ => Gv.ret) (Gv.ret.cast ?_)))
  · rw [zipL_len, sizeLine_eq]
    omega
  · rw [List.all_map]
    rfl
theorem g_eq (a b : Order) : Gv (w_Order__eq a b) (decide (a.layers.l = b.layers.l)) := by
  unfold w_Order__eq
  simp only [pb, ba, sq_nx, sq_rt, sq_b, sq_i, sq_f, fR_rt, fR_b, fR_i, fR_f, fN_nx, fN_b, fN_i, fN_f, fI_nx, fI_b, fI_i, fI_f, i_b, f_b, if_true, if_false, Bool.false_eq_true, Bool.not_true, Bool.not_false, setW, retW, dropW, ifW, reduceIte]
  refine Gv.need' ⟨by simp, by simp⟩ (Gv.ret.cast ?_)
  rw [dtEq_ti]
/-! ### closed -/
theorem getP_put {β : Type} (d : List (Int × β)) (i k : Int) (b : β) : getP (putP d i b) k = if k = i then some b else getP d k := by
  unfold putP
  by_cases h : (d.any fun p => decide (p.1 = i)) = true
  · rw [if_pos h]
    induction d with
    | nil => cases h
    | cons p d ih =>
      obtain ⟨x, y⟩ := p
      unfold getP at ih ⊢
      rw [List.map_cons, List.find?_cons, List.find?_cons]
      by_cases hx : x = i
      · subst hx
        rw [if_pos rfl]
        by_cases hk : k = x
        · subst hk
          simp
        · rw [if_neg hk]
          have e : decide (x = k) = false := decide_eq_false fun z => hk z.symm
          simp only [e]
          clear ih h
          induction d with
          | nil => rfl
          | cons q d ih2 =>
            rw [List.map_cons, List.find?_cons, List.find?_cons]
            by_cases hq : q.1 = x
            · rw [if_pos hq]
              have e2 : decide (q.1 = k) = false := decide_eq_false fun z => hk (z.symm.trans hq)
              simp only [e2]
              exact ih2
            · rw [if_neg hq]
              cases decide (q.1 = k) with
              | true => rfl
              | false => exact ih2
      · rw [if_neg hx]
        have h' : (d.any fun p => decide (p.1 = i)) = true := by
          rw [List.any_cons] at h
          simpa [hx] using h
        cases hk : decide (x = k) with
        | true =>
          have := of_decide_eq_true hk
          rw [if_neg (fun z => hx (this.trans z))]
        | false => exact ih h'
  · rw [if_neg h]
    have hn : ∀ p ∈ d, p.1 ≠ i := fun p hp e => h (List.any_eq_true.mpr ⟨p, hp, decide_eq_true e⟩)
    unfold getP
    rw [List.find?_append]
    cases hf : d.find? fun p => decide (p.1 = k) with
    | some p =>
      have hp := List.mem_of_find?_eq_some hf
      have hk := List.find?_some hf
      rw [if_neg fun z => hn p hp ((of_decide_eq_true hk).trans z)]
      rfl
    | none =>
      by_cases hk : k = i
      · subst hk
        simp
      · rw [if_neg hk]
        have e : decide (i = k) = false := decide_eq_false fun z => hk z.symm
        simp [e]
theorem g_dc (xs : List (T2 Int Int)) : ∀ d : List (Int × Int), Gv (dcW (fun _ => (pure true : W Bool)) (fun t : T2 Int Int => (pure t.b : W Int)) (fun t : T2 Int Int => (pure t.a : W Int)) xs d) ⟨xs.foldl (fun d t => putP d t.b t.a) d⟩ := by
  induction xs with
  | nil => exact fun d => Gv.ret
  | cons x xs ih => exact fun d => ih (putP d x.b x.a)
theorem get_fold (k : Int) : ∀ (s : List Int) (i : Nat) (d : List (Int × Int)), s.Nodup →
    getP (((s.zipIdx i).map fun p => (⟨(p.2 : Int), p.1⟩ : T2 Int Int)).foldl (fun d t => putP d t.b t.a) d) k = if k ∈ s then some ((i + s.idxOf k : Nat) : Int) else getP d k
  | [], i, d, _ => rfl
  | x :: s, i, d, h => by
    obtain ⟨hx, hs⟩ := List.nodup_cons.mp h
    rw [List.zipIdx_cons, List.map_cons, List.foldl_cons, get_fold k s (i + 1) _ hs, getP_put]
    by_cases hk : k = x
    · subst hk
      rw [if_neg hx, if_pos rfl, if_pos List.mem_cons_self, List.idxOf_cons_self]
      rfl
    · rw [if_neg hk]
      by_cases hm : k ∈ s
      · have e : (x == k) = false := beq_eq_false_iff_ne.mpr (Ne.symm hk)
        rw [if_pos hm, if_pos (List.mem_cons_of_mem _ hm), List.idxOf_cons, e]
        show some _ = some _
        rw [show i + 1 + s.idxOf k = i + (s.idxOf k + 1) by omega]
        rfl
      · rw [if_neg hm, if_neg fun z => (List.mem_cons.mp z).elim hk hm]
def closedL (l : List Int) : List Int := l.map fun x => (((srtU l).idxOf x : Nat) : Int)
theorem srtU_nodup (l : List Int) : (srtU l).Nodup := (srtU_lt l).imp fun h => Int.ne_of_lt h
theorem g_closed (o : Order) (hz : nDays o ≤ 16) (h : Lay (closedL o.layers.l)) : Gv (w_Order_closed o) ⟨⟨closedL o.layers.l⟩⟩ := by
  unfold nDays at hz
  unfold w_Order_closed
  simp only [pb, ba, sq_nx, sq_rt, sq_b, sq_i, sq_f, fR_rt, fR_b, fR_i, fR_f, fN_nx, fN_b, fN_i, fN_f, fI_nx, fI_b, fI_i, fI_f, i_b, f_b, if_true, if_false, Bool.false_eq_true, Bool.not_true, Bool.not_false, setW, retW, dropW, ifW, reduceIte]
  have hs : (srtU o.layers.l).length ≤ 16 := by
    unfold srtU
    rw [List.length_mergeSort]
    exact Nat.le_trans (ddup_len _) hz
  refine Gv.need' (by omega) (Gv.need' (by rw [enumL_len, sizeLine_eq]; omega) ((g_dc _ []).bind (Gv.need' (by rw [sizeLine_eq]; omega) (Gv.bind (Gv.all (eb := fun x => (((srtU o.layers.l).idxOf x : Nat) : Int)) fun x hx => ?_) ((g_init _ h).bind Gv.ret)))))
  refine Gv.get ?_
  show getP ((enumL (srtU o.layers.l)).foldl (fun d t => putP d t.b t.a) []) x = _
  unfold enumL
  rw [get_fold x (srtU o.layers.l) 0 [] (srtU_nodup _), if_pos ((srtU_mem _ _).mpr hx), Nat.zero_add]
/-- f keeps the order of l's values -/
def Up (f : Int → Int) (l : List Int) : Prop := ∀ x ∈ l, ∀ y ∈ l, x < y → f x < f y
theorem Up.le {f : Int → Int} {l : List Int} (h : Up f l) {x y : Int} (hx : x ∈ l) (hy : y ∈ l) : x ≤ y ↔ f x ≤ f y := by
  constructor
  · intro z
    rcases Int.lt_or_eq_of_le z with z | z
    · exact Int.le_of_lt (h x hx y hy z)
    · rw [z]; exact Int.le_refl _
  · intro z
    refine Int.not_lt.mp fun w => ?_
    have := h y hy x hx w
    omega
theorem Up.lt {f : Int → Int} {l : List Int} (h : Up f l) {x y : Int} (hx : x ∈ l) (hy : y ∈ l) : x < y ↔ f x < f y := by
  have := h.le hy hx
  omega
theorem lay_map (f : Int → Int) (l : List Int) (d : Nat) (h : d < l.length) : lay ⟨⟨l.map f⟩⟩ d = f (lay ⟨⟨l⟩⟩ d) := by
  unfold lay
  simp [h]
theorem lay_mem (l : List Int) (d : Nat) (h : d < l.length) : lay ⟨⟨l⟩⟩ d ∈ l := by
  unfold lay
  simp [h]
/-- the places in a list without repeats that goes up keep the order -/
theorem idx_up : ∀ {s : List Int}, s.Pairwise (· < ·) → ∀ {x y : Int}, x ∈ s → y ∈ s → x < y → s.idxOf x < s.idxOf y
  | [], _, x, y, hx, _, _ => by cases hx
  | a :: s, h, x, y, hx, hy, hl => by
    obtain ⟨h1, h2⟩ := List.pairwise_cons.mp h
    have ya : y ≠ a := fun z => by
      rcases List.mem_cons.mp hx with e | e
      · omega
      · have := h1 x e; omega
    have ey : (a == y) = false := beq_eq_false_iff_ne.mpr (Ne.symm ya)
    rw [List.idxOf_cons, List.idxOf_cons, ey]
    by_cases xa : a = x
    · rw [beq_iff_eq.mpr xa]
      exact Nat.succ_pos _
    · have ex : (a == x) = false := beq_eq_false_iff_ne.mpr xa
      rw [ex]
      exact Nat.succ_lt_succ (idx_up h2 ((List.mem_cons.mp hx).resolve_left (Ne.symm xa)) ((List.mem_cons.mp hy).resolve_left ya) hl)
theorem closed_up (l : List Int) : Up (fun x => (((srtU l).idxOf x : Nat) : Int)) l := fun x hx y hy h => by
  have := idx_up (srtU_lt l) ((srtU_mem l x).mpr hx) ((srtU_mem l y).mpr hy) h
  show ((_ : Nat) : Int) < ((_ : Nat) : Int)
  omega
/-- values 0, 1, .. without a gap -/
def Full (l : List Int) : Prop := ∃ m : Nat, ∀ x : Int, x ∈ l ↔ 0 ≤ x ∧ x ≤ m
theorem srt_full {f : Int → Int} {l : List Int} (h : Up f l) (m : Nat) (hm : ∀ x : Int, x ∈ l ↔ 0 ≤ x ∧ x ≤ m) : srtU (l.map f) = (List.range (m + 1)).map fun i : Nat => f i := by
  refine lt_uniq (srtU_lt _) ?_ fun k => ?_
  · rw [List.pairwise_map]
    refine List.Pairwise.imp_of_mem (fun {a b} ha hb hab => ?_) List.pairwise_lt_range
    exact h _ ((hm _).mpr ⟨by omega, by have := List.mem_range.mp ha; omega⟩) _ ((hm _).mpr ⟨by omega, by have := List.mem_range.mp hb; omega⟩) (by omega)
  · rw [srtU_mem, List.mem_map, List.mem_map]
    constructor
    · rintro ⟨x, hx, rfl⟩
      obtain ⟨h1, h2⟩ := (hm x).mp hx
      exact ⟨x.toNat, List.mem_range.mpr (by omega), by rw [Int.toNat_of_nonneg h1]⟩
    · rintro ⟨i, hi, rfl⟩
      exact ⟨i, (hm i).mpr ⟨by omega, by have := List.mem_range.mp hi; omega⟩, rfl⟩
theorem closed_full {f : Int → Int} {l : List Int} (h : Up f l) (hf : Full l) : closedL (l.map f) = l := by
  obtain ⟨m, hm⟩ := hf
  unfold closedL
  rw [srt_full h m hm, List.map_map]
  refine (List.map_congr_left fun x hx => ?_).trans (List.map_id l)
  obtain ⟨h1, h2⟩ := (hm x).mp hx
  show ((((List.range (m + 1)).map fun i : Nat => f i).idxOf (f x) : Nat) : Int) = id x
  have hp : ((List.range (m + 1)).map fun i : Nat => f i).Pairwise (· < ·) := by
    rw [← srt_full h m hm]
    exact srtU_lt _
  have hn : ((List.range (m + 1)).map fun i : Nat => f i).Nodup := hp.imp fun h => Int.ne_of_lt h
  have hi : x.toNat < ((List.range (m + 1)).map fun i : Nat => f i).length := by
    rw [List.length_map, List.length_range]
    omega
  have e : ((List.range (m + 1)).map fun i : Nat => f i)[x.toNat] = f x := by
    rw [List.getElem_map, List.getElem_range, Int.toNat_of_nonneg h1]
  rw [← e, List.Nodup.idxOf_getElem hn]
  show ((x.toNat : Nat) : Int) = x
  exact Int.toNat_of_nonneg h1
theorem and_len (a b : List Int) (h : a.length = b.length) : (andL a b).length = a.length := by
  unfold andL
  rw [List.length_map, zipL_len]
  omega
theorem lay_and (a b : List Int) (h : a.length = b.length) (d : Nat) (hd : d < a.length) : lay ⟨⟨andL a b⟩⟩ d = min (lay ⟨⟨a⟩⟩ d) (lay ⟨⟨b⟩⟩ d) := by
  unfold lay andL zipL
  have hb : d < b.length := by omega
  have e : (a.zip b)[d]? = some (a[d], b[d]) := by
    rw [List.getElem?_eq_getElem (by simp; omega)]
    simp
  simp [hd, hb, e]
theorem andL_mem {a b : List Int} {x : Int} (h : x ∈ andL a b) : ∃ y ∈ a, ∃ z ∈ b, x = min y z := by
  unfold andL zipL at h
  rw [List.map_map] at h
  obtain ⟨p, hp, rfl⟩ := List.mem_map.mp h
  exact ⟨p.1, (List.of_mem_zip hp).1, p.2, (List.of_mem_zip hp).2, rfl⟩
theorem lay_andL {a b : List Int} (ha : Lay a) (hb : Lay b) (h : a.length = b.length) : Lay (andL a b) where
  n := by rw [and_len a b h]; exact ha.n
  b := fun x hx => by
    obtain ⟨y, hy, z, hz, rfl⟩ := andL_mem hx
    have := ha.b y hy
    have := hb.b z hz
    omega
  z := by
    obtain ⟨i, hi, e⟩ := List.mem_iff_getElem.mp hb.z
    have hia : i < a.length := by omega
    have e2 : (andL a b)[i]? = some (min a[i] b[i]) := by
      unfold andL zipL
      rw [List.getElem?_map, List.getElem?_map, List.getElem?_eq_getElem (by rw [List.length_zip]; omega)]
      simp
    have := ha.b _ (List.getElem_mem hia)
    rw [e, show min a[i] 0 = 0 by omega] at e2
    exact List.mem_of_getElem? e2
theorem lay_closedL {a : List Int} (ha : Lay a) : Lay (closedL a) where
  n := by unfold closedL; rw [List.length_map]; exact ha.n
  b := fun x hx => by
    unfold closedL at hx
    obtain ⟨y, hy, rfl⟩ := List.mem_map.mp hx
    have h1 : (srtU a).idxOf y ≤ (srtU a).length := List.idxOf_le_length
    have h2 : (srtU a).length ≤ 16 := by
      unfold srtU
      rw [List.length_mergeSort]
      exact Nat.le_trans (ddup_len _) ha.le
    omega
  z := by
    have hne : srtU a ≠ [] := List.ne_nil_of_mem ((srtU_mem a 0).mpr ha.z)
    obtain ⟨x, s, e⟩ := List.exists_cons_of_ne_nil hne
    have hx : x ∈ a := (srtU_mem a x).mp (by rw [e]; exact List.mem_cons_self)
    unfold closedL
    refine List.mem_map.mpr ⟨x, hx, ?_⟩
    rw [e, List.idxOf_cons_self]
    rfl
/-! ### keeping -/
theorem kept_up {f : Int → Int} {l : List Int} (h : Up f l) (s : SN) (ok : s.Ok l.length) : s.kept ⟨⟨l.map f⟩⟩ = s.kept ⟨⟨l⟩⟩ := by
  rw [Bool.eq_iff_iff, kept_iff, kept_iff]
  have e : ∀ n, n < 2 ^ l.length → ∀ d ∈ days n, lay ⟨⟨l.map f⟩⟩ d = f (lay ⟨⟨l⟩⟩ d) ∧ lay ⟨⟨l⟩⟩ d ∈ l := fun n hn d hd => ⟨lay_map f l d (days_lt hn hd), lay_mem l d (days_lt hn hd)⟩
  refine forall_congr' fun d => forall_congr' fun hd => exists_congr fun c => and_congr_right fun hc => ?_
  obtain ⟨d1, d2⟩ := e _ ok.hi d hd
  obtain ⟨c1, c2⟩ := e _ ok.lo c hc
  rw [d1, c1]
  have h1 := h.lt c2 d2
  have h2 := h.le c2 d2
  rcases step_cases s with ⟨_, hs⟩ | ⟨_, hs⟩ <;> rw [hs]
  · constructor
    · intro z; have := h1.mpr (by omega); omega
    · intro z; have := h1.mp (by omega); omega
  · constructor
    · intro z; have := h2.mpr (by omega); omega
    · intro z; have := h2.mp (by omega); omega
theorem kept_closed {l : List Int} (s : SN) (ok : s.Ok l.length) : s.kept ⟨⟨closedL l⟩⟩ = s.kept ⟨⟨l⟩⟩ := kept_up (closed_up l) s ok
theorem kept_and {a b : List Int} (h : a.length = b.length) (s : SN) (ok : s.Ok a.length) (h1 : s.kept ⟨⟨a⟩⟩ = true) (h2 : s.kept ⟨⟨b⟩⟩ = true) : s.kept ⟨⟨andL a b⟩⟩ = true := by
  rw [kept_iff] at *
  intro d hd
  have hdl := days_lt ok.hi hd
  rw [lay_and a b h d hdl]
  obtain ⟨c, hc, ec⟩ := h1 d hd
  obtain ⟨e, he, ee⟩ := h2 d hd
  have e1 := lay_and a b h c (days_lt ok.lo hc)
  have e2 := lay_and a b h e (days_lt ok.lo he)
  by_cases q : lay ⟨⟨a⟩⟩ d ≤ lay ⟨⟨b⟩⟩ d
  · exact ⟨c, hc, by omega⟩
  · exact ⟨e, he, by omega⟩
/-! ### below -/
def leL (a b : List Int) : Bool := (zipL a b).all fun p => decide (p.a ≤ p.b)
theorem leL_iff {a b : List Int} (h : a.length = b.length) : leL a b = true ↔ ∀ d, d < a.length → lay ⟨⟨a⟩⟩ d ≤ lay ⟨⟨b⟩⟩ d := by
  unfold leL
  rw [List.all_eq_true]
  constructor
  · intro z d hd
    have hm : (⟨lay ⟨⟨a⟩⟩ d, lay ⟨⟨b⟩⟩ d⟩ : T2 Int Int) ∈ zipL a b := by
      refine List.mem_of_getElem? (i := d) ?_
      have hb : d < b.length := by omega
      unfold zipL lay
      rw [List.getElem?_map, List.getElem?_eq_getElem (by rw [List.length_zip]; omega)]
      simp [hd, hb]
    exact of_decide_eq_true (z _ hm)
  · intro z p hp
    obtain ⟨i, hi⟩ := List.mem_iff_getElem?.mp hp
    obtain ⟨h1, h2⟩ := zipL_get hi
    have hlt := (List.getElem?_eq_some_iff.mp h1).1
    have := z i hlt
    unfold lay at this
    rw [show ((Order.mk ⟨a⟩).layers.l[i]?) = some p.a from h1, show ((Order.mk ⟨b⟩).layers.l[i]?) = some p.b from h2] at this
    exact decide_eq_true this
theorem g_ben (a b : List Int) (h : a.length = b.length) (hz : a.length ≤ 16) : Gv (w_Order_beneath ⟨⟨a⟩⟩ ⟨⟨b⟩⟩) (leL a b) := g_beneath ⟨⟨a⟩⟩ ⟨⟨b⟩⟩ h hz
theorem g_l_ben (a b : List Int) (h : a.length = b.length) (hz : a.length ≤ 16) : Gv (w_l_beneath ⟨a⟩ ⟨b⟩) (leL a b) := by
  unfold w_l_beneath
  simp only [pb, ba, sq_nx, sq_rt, sq_b, fR_rt, fR_b, fN_nx, fN_b, setW, retW, dropW]
  refine Gv.need' (by rw [zipL_len, sizeLine_eq]; omega) (Gv.bind (Gv.comp (tb := fun p : T2 Int Int => decide (p.b < p.a)) (eb := fun _ => (1 : Int)) (fun p _ => Gv.ret) fun p _ _ => Gv.ret) (Gv.need' nil_size (Gv.need' ⟨by simp, by simp⟩ (Gv.ret.cast ?_))))
  rw [dtEq_bi]
  unfold leL
  rw [Bool.eq_iff_iff, decide_eq_true_iff, List.all_eq_true]
  show List.map _ _ = [] ↔ _
  rw [List.map_eq_nil_iff, List.filter_eq_nil_iff]
  refine forall_congr' fun p => forall_congr' fun hp => ?_
  rw [decide_eq_true_iff, decide_eq_true_iff]
  omega
theorem and_lay {a b : List Int} (h : a.length = b.length) : leL (andL a b) a = true ∧ leL (andL a b) b = true := by
  have hl := and_len a b h
  refine ⟨(leL_iff hl).mpr fun d hd => ?_, (leL_iff (hl.trans h)).mpr fun d hd => ?_⟩ <;> (rw [lay_and a b h d (by omega)]; omega)
theorem le_and {a b c : List Int} (h : a.length = b.length) (hc : c.length = a.length) : leL c (andL a b) = (leL c a && leL c b) := by
  rw [Bool.eq_iff_iff, Bool.and_eq_true, leL_iff (hc.trans (and_len a b h).symm), leL_iff hc, leL_iff (hc.trans h)]
  constructor
  · intro z
    refine ⟨fun d hd => ?_, fun d hd => ?_⟩ <;> (have := z d hd; rw [lay_and a b h d (by omega)] at this; omega)
  · rintro ⟨z1, z2⟩ d hd
    have := z1 d hd
    have := z2 d hd
    rw [lay_and a b h d (by omega)]
    omega
theorem lay_ext {a b : List Int} (h : a.length = b.length) (z : ∀ d, d < a.length → lay ⟨⟨a⟩⟩ d = lay ⟨⟨b⟩⟩ d) : a = b := by
  refine List.ext_getElem h fun i h1 h2 => ?_
  have := z i h1
  unfold lay at this
  simpa [h1, h2] using this
end TW
set_option Elab.async false
set_option maxRecDepth 100000
set_option maxHeartbeats 1000000
set_option linter.all false
set_option autoImplicit false
/-! k15's questions -/
namespace TW
open Pa (rep)
open PaL (repL)
open PySem PySem.Spec PyProof.Rows L2 My
theorem srtU_len (l : List Int) : (srtU l).length ≤ l.length := by
  unfold srtU
  rw [List.length_mergeSort]
  exact ddup_len _
theorem closed_mem (l : List Int) (x : Int) : x ∈ closedL l ↔ ∃ i : Nat, i < (srtU l).length ∧ x = (i : Int) := by
  unfold closedL
  rw [List.mem_map]
  constructor
  · rintro ⟨y, hy, rfl⟩
    exact ⟨_, List.idxOf_lt_length_of_mem ((srtU_mem l y).mpr hy), rfl⟩
  · rintro ⟨i, hi, rfl⟩
    refine ⟨(srtU l)[i], (srtU_mem l _).mp (List.getElem_mem hi), ?_⟩
    rw [List.Nodup.idxOf_getElem (srtU_nodup l)]
theorem closed_srt (l : List Int) : srtU (closedL l) = rngL 0 (srtU l).length := by
  refine lt_uniq (srtU_lt _) ?_ fun k => ?_
  · unfold rngL
    rw [List.pairwise_map]
    exact List.Pairwise.imp (fun h => by omega) List.pairwise_lt_range
  · rw [srtU_mem, closed_mem]
    unfold rngL
    rw [List.mem_map]
    constructor
    · rintro ⟨i, hi, rfl⟩
      exact ⟨i, List.mem_range.mpr hi, by omega⟩
    · rintro ⟨i, hi, e⟩
      exact ⟨i, List.mem_range.mp hi, by omega⟩
theorem closed_Full {l : List Int} (h : l ≠ []) : Full (closedL l) := by
  obtain ⟨x, hx⟩ := List.exists_mem_of_ne_nil l h
  have hp : 0 < (srtU l).length := List.length_pos_of_mem ((srtU_mem l x).mpr hx)
  refine ⟨(srtU l).length - 1, fun x => ?_⟩
  rw [closed_mem]
  constructor
  · rintro ⟨i, hi, rfl⟩
    omega
  · rintro ⟨h0, h1⟩
    exact ⟨x.toNat, by omega, by omega⟩
theorem closed_id {l : List Int} (h : Full l) : closedL l = l := by
  have := closed_full (f := fun x => x) (l := l) (fun x _ y _ h => h) h
  rwa [List.map_id'' (fun _ => rfl)] at this
theorem up_idx : ∀ (s : List Int), s.Pairwise (· < ·) → ∀ (b : Int), (∀ x ∈ s, b ≤ x) → ∀ x ∈ s, b + ((s.idxOf x : Nat) : Int) ≤ x
  | [], _, _, _, x, hx => by cases hx
  | a :: s, hp, b, hb, x, hx => by
    obtain ⟨h1, h2⟩ := List.pairwise_cons.mp hp
    have hab := hb a List.mem_cons_self
    rw [List.idxOf_cons]
    by_cases e : a = x
    · rw [beq_iff_eq.mpr e]
      show b + 0 ≤ x
      omega
    · have ex : (a == x) = false := beq_eq_false_iff_ne.mpr e
      rw [ex]
      have hxs := (List.mem_cons.mp hx).resolve_left (Ne.symm e)
      have := up_idx s h2 (b + 1) (fun y hy => by have := h1 y hy; omega) x hxs
      show b + ((s.idxOf x + 1 : Nat) : Int) ≤ x
      omega
theorem closed_len (l : List Int) : (closedL l).length = l.length := by unfold closedL; rw [List.length_map]
theorem closed_le {l : List Int} (h : Lay l) : leL (closedL l) l = true := by
  rw [leL_iff (closed_len l)]
  intro d hd
  have hd : d < l.length := by rwa [closed_len] at hd
  unfold closedL
  rw [lay_map _ l d hd]
  have := up_idx (srtU l) (srtU_lt l) 0 (fun x hx => (h.b x ((srtU_mem l x).mp hx)).1) (lay ⟨⟨l⟩⟩ d) ((srtU_mem l _).mpr (lay_mem l d hd))
  omega
theorem g_l_closed (l : List Int) (ss : List SN) (h : Lay l) (ok : OkL l.length ss) (hz : ss.length ≤ 100) : Gv (w_l_closed ⟨⟨l⟩⟩ ⟨l⟩ ⟨ss.map SN.t3⟩) true := by
  have hl := h.le
  have hc := lay_closedL h
  have hne : l ≠ [] := fun z => by have := h.z; rw [z] at this; cases this
  have hcl := closed_len l
  have hid := closed_id (closed_Full hne)
  have hs := srtU_len (closedL l)
  unfold w_l_closed
  simp only [pb, ba, sq_nx, sq_rt, sq_b, fR_rt, fR_b, fN_nx, fN_b, setW, retW, dropW]
  have c1 : Gv (w_Order_closed ⟨⟨l⟩⟩) ⟨⟨closedL l⟩⟩ := g_closed ⟨⟨l⟩⟩ hl hc
  have c2 : Gv (w_Order_closed ⟨⟨closedL l⟩⟩) ⟨⟨closedL l⟩⟩ := by
    have := g_closed ⟨⟨closedL l⟩⟩ (by show (closedL l).length ≤ 16; omega) (by rw [hid]; exact hc)
    rwa [hid] at this
  refine c1.bind (Gv.need' (by show (closedL l).length ≤ 60; omega) (Gv.need' ⟨by omega, by show ((srtU (closedL l)).length : Int) ≤ _; omega⟩ (Gv.need' ⟨by simp, by simp⟩ ?_)))
  rw [dtEq_bi]
  have e0 : (Bor.mk (srtU (closedL l))).l = (Bor.mk (rngL 0 (((srtU (closedL l)).length : Nat) : Int).toNat)).l := by
    show srtU (closedL l) = rngL 0 _
    rw [Int.toNat_natCast, closed_srt]
    congr 1
    unfold rngL
    rw [List.length_map, List.length_range]
  rw [decide_eq_true e0]
  simp only [Bool.not_true, Bool.false_eq_true, if_false]
  simp only [pb, ba, sq_nx, sq_rt, sq_b, fR_rt, fR_b, fN_nx, fN_b, setW, retW, dropW]
  refine c2.bind ((g_eq _ _).bind ?_)
  rw [decide_eq_true rfl]
  simp only [Bool.not_true, Bool.false_eq_true, if_false]
  simp only [pb, ba, sq_nx, sq_rt, sq_b, fR_rt, fR_b, fN_nx, fN_b, setW, retW, dropW]
  refine (g_ben (closedL l) l hcl (by omega)).bind ?_
  rw [closed_le h, decide_eq_true rfl]
  simp only [Bool.not_true, Bool.false_eq_true, if_false]
  simp only [pb, ba, sq_nx, sq_rt, sq_b, fR_rt, fR_b, fN_nx, fN_b, setW, retW, dropW]
  refine (g_said ss hz (ok.up hl)).bind ?_
  refine Gv.fR (Gv.seq (s := ()) (Gv.for (g := fun s _ => s) fun x u hx => ?_) Gv.ret)
  obtain ⟨i, hi⟩ := List.mem_iff_getElem?.mp hx
  obtain ⟨i1, i2⟩ := zipL_get hi
  rw [List.getElem?_map] at i1 i2
  obtain ⟨s, is, e1⟩ := Option.map_eq_some_iff.mp i1
  rw [is] at i2
  have e2 : s.sy = x.b := Option.some.inj i2
  have os := ok s (List.mem_of_getElem? is)
  rw [← e1, ← e2]
  refine (g_l_keeps l s hl os).bind ((g_keeps ⟨⟨l⟩⟩ s hl os).bind ((g_flag _ _).bind ?_))
  rw [decide_eq_true rfl]
  simp only [Bool.not_true, Bool.false_eq_true, if_false]
  simp only [pb, ba, sq_nx, sq_rt, sq_b, fR_rt, fR_b, fN_nx, fN_b, setW, retW, dropW]
  have nd : nDays ⟨⟨closedL l⟩⟩ = l.length := hcl
  refine (g_keeps ⟨⟨closedL l⟩⟩ s (by rw [nd]; exact hl) (by rw [nd]; exact os)).bind ?_
  rw [kept_closed s os]
  refine (g_flag _ _).bind ?_
  rw [decide_eq_true rfl]
  exact Gv.ret
theorem g_below_both (a b c : List Int) (h : a.length = b.length) (hc : c.length = a.length) (hz : a.length ≤ 16) : Gv (w_l_below_both ⟨⟨andL a b⟩⟩ ⟨⟨a⟩⟩ ⟨⟨b⟩⟩ ⟨⟨c⟩⟩) true := by
  have hal := and_len a b h
  unfold w_l_below_both
  simp only [pb, ba, sq_nx, sq_rt, sq_b, fR_rt, fR_b, fN_nx, fN_b, setW, retW, dropW]
  refine (g_l_ben c a hc (by omega)).bind ?_
  have e := le_and h hc
  have k : ∀ v : Bool, v = leL c (andL a b) → Gv (w_Order_beneath ⟨⟨c⟩⟩ ⟨⟨andL a b⟩⟩ >>= fun x => w_l_flag x v >>= fun b1 => if b1 = true then w_Order_beneath ⟨⟨andL a b⟩⟩ ⟨⟨a⟩⟩ >>= fun x => if decide (x = true) = true then w_Order_beneath ⟨⟨andL a b⟩⟩ ⟨⟨b⟩⟩ >>= fun x => (pure (decide (x = true)) : W Bool) else pure false else pure false) true := fun v hv => by
    subst hv
    refine (g_ben c (andL a b) (hc.trans hal.symm) (by omega)).bind ((g_flag _ _).bind ?_)
    rw [decide_eq_true rfl, if_pos rfl]
    refine (g_ben (andL a b) a hal (by omega)).bind ?_
    rw [(and_lay h).1, decide_eq_true rfl, if_pos rfl]
    refine (g_ben (andL a b) b (hal.trans h) (by omega)).bind ?_
    rw [(and_lay h).2]
    exact Gv.ret
  cases h1 : leL c a with
  | true =>
    rw [if_pos rfl]
    refine (g_l_ben c b (hc.trans h) (by omega)).bind ?_
    exact (k (leL c b) (by rw [e, h1]; rfl)).bind Gv.ret
  | false =>
    rw [if_neg Bool.false_ne_true]
    exact (k false (by rw [e, h1]; rfl)).bind Gv.ret
theorem r_drawn (b : Bag) (l1 l2 : List Int) (m : Nat) (h1 : Lay l1) (h2 : Lay l2) (h : l1.length = l2.length) (hm : m ≤ 16) : Rn (w_l_drawn b ⟨l1⟩ ⟨l2⟩ m) fun v => ∃ ss : List SN, v = ss.map SN.t3 ∧ OkL l1.length ss ∧ ss.length = m := by
  unfold w_l_drawn
  simp only [pb, ba, sq_nx, sq_rt, sq_b, fR_rt, fR_b, fN_nx, fN_b, setW, retW, dropW]
  refine Rn.need (Nat.zero_le _) (Rn.need ⟨by omega, by omega⟩ (Rn.fR (Rn.seq (T := fun v : List (T3 Int Int Bool) => ∃ ss : List SN, v = ss.map SN.t3 ∧ OkL l1.length ss ∧ ss.length = m) ((Rn.forL (I := fun (j : Nat) (v : List (T3 Int Int Bool)) => ∃ ss : List SN, v = ss.map SN.t3 ∧ OkL l1.length ss ∧ ss.length = j) ⟨[], rfl, nofun, rfl⟩ ?_).mono ?_) fun v hv => Rn.ret ⟨_, rfl, hv⟩)))
  · rintro j x v hx ⟨ss, rfl, hok, hlen⟩
    have hj : j < m := by
      have := (rngL_get hx).1
      rwa [Int.toNat_natCast] at this
    have app : ∀ s : SN, s.Ok l1.length → Rn (W.need ((ss.map SN.t3).length < sizeLine) >>= fun _ => (pure (.nx (ss.map SN.t3 ++ [s.t3])) : W (Res (List (T3 Int Int Bool)) (List (T3 Int Int Bool)) (List (T3 Int Int Bool))))) fun r => ∃ s', r = .nx s' ∧ ∃ ss : List SN, s' = ss.map SN.t3 ∧ OkL l1.length ss ∧ ss.length = j + 1 := fun s hs => by
      refine Rn.need (by rw [List.length_map, hlen, sizeLine_eq]; omega) (Rn.ret ⟨_, rfl, ss ++ [s], by rw [List.map_append]; rfl, fun y hy => ?_, by rw [List.length_append, hlen]; rfl⟩)
      rcases List.mem_append.mp hy with z | z
      · exact hok y z
      · rw [List.mem_singleton.mp z]; exact hs
    refine (r_take b 7 (by decide) (big8000 (by decide))).bind fun kd _ => ?_
    refine Rn.seq (T := fun s' : List (T3 Int Int Bool) => ∃ ss : List SN, s' = ss.map SN.t3 ∧ OkL l1.length ss ∧ ss.length = j + 1) (Rn.ite (fun _ => ?_) fun _ => Rn.seq (T := fun s' : List (T3 Int Int Bool) => ∃ ss : List SN, s' = ss.map SN.t3 ∧ OkL l1.length ss ∧ ss.length = j + 1) (Rn.ite (fun _ => ?_) fun _ => ?_) fun v hv => Rn.ret ⟨_, rfl, hv⟩) fun v hv => Rn.ret ⟨_, rfl, hv⟩
    · refine (r_toward b l1 h1).bind ?_
      rintro _ ⟨s, rfl, hs, _⟩
      exact app s hs
    · refine (r_toward b l2 h2).bind ?_
      rintro _ ⟨s, rfl, hs, _⟩
      exact app s (h ▸ hs)
    · refine (r_any b l1.length h1.n).bind ?_
      rintro _ ⟨s, rfl, hs⟩
      exact app s hs
  · rintro r ⟨v, e, ss, h1, h2, h3⟩
    refine ⟨v, e, ss, h1, h2, ?_⟩
    rw [h3]
    unfold rngL
    rw [List.length_map, List.length_range, Int.toNat_natCast]
end TW
set_option Elab.async false
set_option maxRecDepth 100000
set_option maxHeartbeats 1000000
set_option linter.all false
set_option autoImplicit false
/-! k15: the law -/
namespace TW
open Pa (rep)
open PaL (repL)
open PySem PySem.Spec PyProof.Rows L2 My
def ordF (l : List Int) (d : Nat) : Option Int := l[d]?
theorem ordF_lay {l : List Int} {d : Nat} (h : d < l.length) : ordF l d = some (lay ⟨⟨l⟩⟩ d) := by
  unfold ordF lay
  simp [h]
theorem ordF_some {l : List Int} {d : Nat} {y : Int} (h : ordF l d = some y) : d < l.length ∧ y = lay ⟨⟨l⟩⟩ d := by
  have hd := (List.getElem?_eq_some_iff.mp h).1
  rw [ordF_lay hd] at h
  exact ⟨hd, (Option.some.inj h).symm⟩
theorem sat_kept {l : List Int} {s : SN} (hz : l.length ≤ 16) (ok : s.Ok l.length) : sat (ordF l) s ↔ s.kept ⟨⟨l⟩⟩ = true := by
  rw [kept_iff]
  constructor
  · intro h d hd
    have hdl := days_lt ok.hi hd
    obtain ⟨c, c1, x, c2, c3⟩ := h d (mem_days.mp hd).2 _ (ordF_lay hdl)
    obtain ⟨c4, c5⟩ := ordF_some c2
    exact ⟨c, mem_days.mpr ⟨by omega, c1⟩, by omega⟩
  · intro h d hd y hy
    obtain ⟨h1, h2⟩ := ordF_some hy
    obtain ⟨c, c1, c2⟩ := h d (mem_days.mpr ⟨by omega, hd⟩)
    exact ⟨c, (mem_days.mp c1).2, _, ordF_lay (days_lt ok.lo c1), by omega⟩
theorem val_of {l : List Int} {ss : List SN} (ly : Lay l) (ok : OkL l.length ss) (hk : ∀ s ∈ ss, s.kept ⟨⟨l⟩⟩ = true) : Val ss l.length (fun _ => 0) (ordF l) :=
  ⟨fun s hs => (sat_kept ly.le (ok s hs)).mpr (hk s hs), fun d hd y hy => by
    obtain ⟨h1, h2⟩ := ordF_some hy
    rw [h2]
    exact (ly.b _ (lay_mem l d h1)).1⟩
theorem ex_max : ∀ {l : List Int}, l ≠ [] → ∃ M ∈ l, ∀ x ∈ l, x ≤ M
  | [], h => (h rfl).elim
  | [a], _ => ⟨a, List.mem_cons_self, fun x hx => by rw [List.mem_singleton.mp hx]; exact Int.le_refl _⟩
  | a :: b :: l, _ => by
    obtain ⟨M, hM, h⟩ := ex_max (l := b :: l) nofun
    by_cases q : a ≤ M
    · exact ⟨M, List.mem_cons_of_mem _ hM, fun x hx => (List.mem_cons.mp hx).elim (fun e => e ▸ q) (h x)⟩
    · exact ⟨a, List.mem_cons_self, fun x hx => (List.mem_cons.mp hx).elim (fun e => by omega) fun e => by have := h x e; omega⟩
/-- what the least order is -/
theorem told_of {ss : List SN} {n : Nat} {r : Sm2 Lifted Stuck} {L : List (Option Int)} {P : Nat} (T : Told ss n r L P) (hn : Dc n) (ok : OkL n ss) {l : List Int} (ly : Lay l) (hl : l.length = n) (hk : ∀ s ∈ ss, s.kept ⟨⟨l⟩⟩ = true) :
    ∃ x lo, r = .a x ∧ x.order = ⟨⟨lo⟩⟩ ∧ Lay lo ∧ lo.length = n ∧ (∀ s ∈ ss, s.kept ⟨⟨lo⟩⟩ = true) ∧ Full lo ∧ ∀ l' : List Int, Lay l' → l'.length = n → (∀ s ∈ ss, s.kept ⟨⟨l'⟩⟩ = true) → leL lo l' = true := by
  have hp := hn.pos
  have v := val_of ly (hl.symm ▸ ok) hk
  rw [hl] at v
  have hall : ∀ d, d < n → ∃ y, lk L d = some y := fun d hd => by
    cases h : lk L d with
    | some y => exact ⟨y, rfl⟩
    | none =>
      obtain ⟨w, e, _⟩ := (T.c.m _ v d hd _ (ordF_lay (by rw [hl]; exact hd))).2 h
      cases e
  obtain ⟨x, lo, e1, e2, e3, e4, e5⟩ := T.a hall
  have hlk : ∀ d, lk L d = ordF lo d := fun d => by
    rw [e3]
    unfold lk ordF
    rw [List.getElem?_map]
    cases lo[d]? <;> rfl
  have hlo : lo ≠ [] := fun z => by rw [z] at e5; simp at e5; omega
  refine ⟨x, lo, e1, e2, e4, e5, fun s hs => ?_, ?_, fun l' ly' hl' hk' => ?_⟩
  · have h := T.c.sa s hs
    rw [show lk L = ordF lo from funext hlk] at h
    exact (sat_kept e4.le (e5.symm ▸ ok s hs)).mp h
  · obtain ⟨M, hM, hmax⟩ := ex_max hlo
    have hM0 := (e4.b M hM).1
    refine ⟨M.toNat, fun k => ⟨fun hk => ⟨(e4.b k hk).1, by have := hmax k hk; omega⟩, fun ⟨h0, h1⟩ => ?_⟩⟩
    obtain ⟨d, hd⟩ := List.mem_iff_getElem?.mp hM
    obtain ⟨d2, hd2⟩ := (T.c.f fun _ _ => rfl).2 k h0 nofun fun _ => ⟨d, M, (hlk d).trans hd, by omega⟩
    exact List.mem_of_getElem? ((hlk d2).symm.trans hd2)
  · have v' := val_of ly' (hl'.symm ▸ ok) hk'
    rw [hl'] at v'
    rw [leL_iff (e5.trans hl'.symm)]
    intro d hd
    have hdn : d < n := by rwa [e5] at hd
    exact (T.c.m _ v' d hdn _ (ordF_lay (by rw [hl']; exact hdn))).1 _ ((hlk d).trans (ordF_lay hd))
def SN.of (x : T3 Int Int Bool) : SN := ⟨x.a.toNat, x.b.toNat, x.c⟩
theorem SN.of_t3 (s : SN) : SN.of s.t3 = s := rfl
theorem g_bag (ns : List Int) (k : Int) (h : ns.length ≤ 63) (h0 : 0 ≤ k) (h1 : k < 1000) : Gv (w_bag ⟨ns⟩ k) ⟨⟩ := Gv.need' ⟨h, h0, h1⟩ Gv.ret
theorem g_and' (a b : List Int) (ha : Lay a) (hb : Lay b) (h : a.length = b.length) : Gv (w_Order__and ⟨⟨a⟩⟩ ⟨⟨b⟩⟩) ⟨⟨andL a b⟩⟩ := g_and ⟨⟨a⟩⟩ ⟨⟨b⟩⟩ h (lay_andL ha hb h)
theorem and_comm' (a b : List Int) (h : a.length = b.length) : andL a b = andL b a := lay_ext ((and_len a b h).trans (h.trans (and_len b a h.symm).symm)) fun d hd => by
  rw [and_len a b h] at hd
  rw [lay_and a b h d hd, lay_and b a h.symm d (by omega)]
  omega
theorem and_self' (a : List Int) : andL a a = a := lay_ext (and_len a a rfl) fun d hd => by
  rw [and_len a a rfl] at hd
  rw [lay_and a a rfl d hd]
  omega
theorem and_assoc' (a b c : List Int) (h : a.length = b.length) (k : b.length = c.length) : andL (andL a b) c = andL a (andL b c) := by
  have h1 := and_len a b h
  have h2 := and_len b c k
  have h3 := and_len (andL a b) c (by omega)
  have h4 := and_len a (andL b c) (by omega)
  refine lay_ext (by omega) fun d hd => ?_
  rw [lay_and (andL a b) c (by omega) d (by omega), lay_and a b h d (by omega), lay_and a (andL b c) (by omega) d (by omega), lay_and b c k d (by omega)]
  omega
end TW
set_option Elab.async false
set_option maxRecDepth 100000
set_option maxHeartbeats 2000000
set_option linter.all false
set_option autoImplicit false
/-! k15: the law -/
namespace TW
open Pa (rep)
open PaL (repL)
open PySem PySem.Spec PyProof.Rows L2 My
theorem r_law15 (ns : List Int) (h : ns.length ≤ 63) : Rn (w_law_Scr ⟨ns⟩) (· = true) := by
  unfold w_law_Scr
  simp only [pb, ba, sq_nx, sq_rt, sq_b, fR_rt, fR_b, fN_nx, fN_b, setW, retW, dropW]
  refine Gv.bindR (g_bag ns 0 h (by decide) (by decide)) (Rn.need (by rw [sizeLine_eq]; exact Nat.le_of_ble_eq_true rfl) ((r_of ⟨⟩ [2, 4, 4, 8, 16] (by simp) (by simp)).bind fun dd hdd => ?_))
  have hdd : ∃ n : Nat, dd = (n : Int) ∧ Dc n := by
    simp only [List.mem_cons, List.not_mem_nil, or_false] at hdd
    rcases hdd with e | e | e | e | e <;> subst e
    · exact ⟨2, rfl, .inl rfl⟩
    · exact ⟨4, rfl, .inr (.inl rfl)⟩
    · exact ⟨4, rfl, .inr (.inl rfl)⟩
    · exact ⟨8, rfl, .inr (.inr (.inl rfl))⟩
    · exact ⟨16, rfl, .inr (.inr (.inr rfl))⟩
  obtain ⟨n, rfl, hn⟩ := hdd
  have hz := hn.le
  refine Rn.need (by rw [sizeLine_eq]; exact Nat.le_of_ble_eq_true rfl) (Rn.need (by rw [sizeLine_eq]; exact Nat.le_of_ble_eq_true rfl) ((Rn.all (T := fun l => l.length = n ∧ Lay l) fun k hk => ?_).bind ?_))
  · have hk : 0 ≤ k ∧ k < 1000 := by
      simp only [List.mem_cons, List.not_mem_nil, or_false] at hk
      omega
    exact Gv.bindR (g_bag ns k h hk.1 hk.2) (r_layers ⟨⟩ n hn)
  rintro rows ⟨hlen, hall⟩
  obtain ⟨l1, l2, l3, rfl⟩ : ∃ a b c, rows = [a, b, c] := by
    match rows, hlen with
    | [a, b, c], _ => exact ⟨a, b, c, rfl⟩
  obtain ⟨n1, y1⟩ := hall l1 (by simp)
  obtain ⟨n2, y2⟩ := hall l2 (by simp)
  obtain ⟨n3, y3⟩ := hall l3 (by simp)
  have at0 : atI [l1, l2, l3] 0 = some l1 := atI_nat (j := 0) rfl
  have at1 : atI [l1, l2, l3] 1 = some l2 := atI_nat (j := 1) rfl
  have at2 : atI [l1, l2, l3] 2 = some l3 := atI_nat (j := 2) rfl
  rw [at0, at1, at2]
  have h12 : l1.length = l2.length := n1.trans n2.symm
  have h23 : l2.length = l3.length := n2.trans n3.symm
  have yb := lay_andL y1 y2 h12
  have nb := (and_len l1 l2 h12).trans n1
  have yc := lay_andL yb y3 (by omega)
  have nc := and_len (andL l1 l2) l3 (by omega)
  have y23 := lay_andL y2 y3 h23
  have n23 := and_len l2 l3 h23
  refine (Gv.get rfl).bindR (Gv.bindR (g_init l1 y1) ((Gv.get rfl).bindR (Gv.bindR (g_init l2 y2) ((Gv.get rfl).bindR (Gv.bindR (g_init l3 y3) (Gv.bindR (g_and' l1 l2 y1 y2 h12) (Gv.bindR (g_and' l2 l1 y2 y1 h12.symm) (Gv.bindR (g_eq _ _) ?_))))))))
  rw [and_comm' l2 l1 h12.symm, decide_eq_true rfl]
  simp only [Bool.not_true, Bool.false_eq_true, if_false]
  simp only [pb, ba, sq_nx, sq_rt, sq_b, fR_rt, fR_b, fN_nx, fN_b, setW, retW, dropW]
  have yaa : Lay (andL l1 l1) := by rw [and_self']; exact y1
  refine Gv.bindR (g_and' l1 l1 y1 y1 rfl) (Gv.bindR (g_eq _ _) ?_)
  rw [and_self', decide_eq_true rfl]
  simp only [Bool.not_true, Bool.false_eq_true, if_false]
  simp only [pb, ba, sq_nx, sq_rt, sq_b, fR_rt, fR_b, fN_nx, fN_b, setW, retW, dropW]
  refine Gv.bindR (g_and' l1 l2 y1 y2 h12) (Gv.bindR (g_and' (andL l1 l2) l3 yb y3 (by omega)) (Gv.bindR (g_and' l2 l3 y2 y3 h23) (Gv.bindR (g_and' l1 (andL l2 l3) y1 y23 (by omega)) (Gv.bindR (g_eq _ _) ?_))))
  rw [and_assoc' l1 l2 l3 h12 h23, decide_eq_true rfl]
  simp only [Bool.not_true, Bool.false_eq_true, if_false]
  simp only [pb, ba, sq_nx, sq_rt, sq_b, fR_rt, fR_b, fN_nx, fN_b, setW, retW, dropW]
  refine Gv.bindR (g_below_both l1 l2 l3 h12 (by omega) (by omega)) ?_
  simp only [Bool.not_true, Bool.false_eq_true, if_false]
  simp only [pb, ba, sq_nx, sq_rt, sq_b, fR_rt, fR_b, fN_nx, fN_b, setW, retW, dropW]
  refine Gv.bindR (g_and' (andL l1 l2) l3 yb y3 (by omega)) (Gv.bindR (g_below_both l1 l2 (andL (andL l1 l2) l3) h12 (by omega) (by omega)) ?_)
  simp only [Bool.not_true, Bool.false_eq_true, if_false]
  simp only [pb, ba, sq_nx, sq_rt, sq_b, fR_rt, fR_b, fN_nx, fN_b, setW, retW, dropW]
  refine (Gv.get rfl).bindR ((Gv.get rfl).bindR (Rn.need (by rw [sizeLine_eq]; exact Nat.le_of_ble_eq_true rfl) ((r_of ⟨⟩ [4, 8, 16] (by simp) (by simp)).bind fun k hk => ?_)))
  have hk : ∃ m : Nat, k = (m : Int) ∧ m ≤ 16 := by
    simp only [List.mem_cons, List.not_mem_nil, or_false] at hk
    exact ⟨k.toNat, by omega, by omega⟩
  obtain ⟨m, rfl, hm⟩ := hk
  refine (r_drawn ⟨⟩ l1 l2 m y1 y2 h12 hm).bind ?_
  rintro _ ⟨ss, rfl, ok, hss⟩
  have okn : OkL n ss := n1 ▸ ok
  refine Rn.need (by rw [List.length_map, hss, sizeLine_eq]; omega) ?_
  refine Gv.bindR (Gv.comp (tb := fun x => (SN.of x).kept ⟨⟨l1⟩⟩ && (SN.of x).kept ⟨⟨l2⟩⟩) (eb := fun x => x) (fun x hx => ?_) fun x _ _ => Gv.ret) ?_
  · obtain ⟨s, hs, rfl⟩ := List.mem_map.mp hx
    rw [SN.of_t3]
    refine (Gv.get rfl).bind ((g_l_keeps l1 s y1.le (ok s hs)).bind ?_)
    cases s.kept ⟨⟨l1⟩⟩ with
    | true => exact (Gv.get rfl).bind (g_l_keeps l2 s y2.le (by rw [n2]; exact okn s hs))
    | false => exact Gv.ret
  rw [List.map_id'' (fun _ => rfl), List.filter_map]
  generalize hks : ss.filter ((fun x => (SN.of x).kept ⟨⟨l1⟩⟩ && (SN.of x).kept ⟨⟨l2⟩⟩) ∘ SN.t3) = ks
  have mks : ∀ s ∈ ks, s ∈ ss ∧ s.kept ⟨⟨l1⟩⟩ = true ∧ s.kept ⟨⟨l2⟩⟩ = true := fun s hs => by
    rw [← hks] at hs
    obtain ⟨a, b⟩ := List.mem_filter.mp hs
    exact ⟨a, by simpa [SN.of_t3] using b⟩
  have lks : ks.length ≤ 16 := by
    rw [← hks]
    exact Nat.le_trans (List.length_filter_le _ _) (by omega)
  have okk : OkL n ks := fun s hs => okn s (mks s hs).1
  have kb : ∀ s ∈ ks, s.kept ⟨⟨andL l1 l2⟩⟩ = true := fun s hs => kept_and h12 s (n1.symm ▸ okk s hs) (mks s hs).2.1 (mks s hs).2.2
  have fn : ∀ (l : List Int) (qs : List SN), (∀ s ∈ qs, s.kept ⟨⟨l⟩⟩ = true) → firstN ⟨⟨l⟩⟩ qs = none := fun l qs hq => by
    unfold firstN
    rw [Option.map_eq_none_iff, List.findIdx?_eq_none_iff]
    intro s hs
    rw [hq s hs]
    rfl
  have ndb : nDays ⟨⟨andL l1 l2⟩⟩ = n := nb
  have saidK := g_said ks (by omega) (okk.up hz)
  have ka := g_keeps_all ⟨⟨andL l1 l2⟩⟩ ks (by rw [ndb]; exact hz) (by rw [ndb]; exact okk)
  have kc := g_call ⟨⟨andL l1 l2⟩⟩ ks (by rw [ndb]; exact hz) (by rw [ndb]; exact okk)
  rw [fn _ _ kb] at ka kc
  refine Gv.bindR saidK (Gv.bindR ka ?_)
  simp only [Option.isNone_none, decide_true, Bool.not_true, Bool.false_eq_true, if_false]
  simp only [pb, ba, sq_nx, sq_rt, sq_b, fR_rt, fR_b, fN_nx, fN_b, setW, retW, dropW]
  refine Gv.bindR saidK (Gv.bindR kc ?_)
  simp only [Option.isSome_none, Bool.false_eq_true, if_false]
  simp only [pb, ba, sq_nx, sq_rt, sq_b, fR_rt, fR_b, fN_nx, fN_b, setW, retW, dropW]
  refine (Gv.get rfl).bindR (Gv.bindR (g_l_closed l1 ss y1 ok (by omega)) ?_)
  simp only [Bool.not_true, Bool.false_eq_true, if_false]
  simp only [pb, ba, sq_nx, sq_rt, sq_b, fR_rt, fR_b, fN_nx, fN_b, setW, retW, dropW]
  refine (Gv.get rfl).bindR (Gv.bindR (g_l_closed l2 ss y2 (n2.symm ▸ okn) (by omega)) ?_)
  simp only [Bool.not_true, Bool.false_eq_true, if_false]
  simp only [pb, ba, sq_nx, sq_rt, sq_b, fR_rt, fR_b, fN_nx, fN_b, setW, retW, dropW]
  refine Gv.bindR (g_l_closed (andL l1 l2) ss yb (nb.symm ▸ okn) (by omega)) ?_
  simp only [Bool.not_true, Bool.false_eq_true, if_false]
  simp only [pb, ba, sq_nx, sq_rt, sq_b, fR_rt, fR_b, fN_nx, fN_b, setW, retW, dropW]
  obtain ⟨nm, km, gm⟩ := g_l_marks2 n hn
  have cutk : cutL (ks.map SN.sy) none (some 12) = (ks.take 12).map SN.sy := (cut_take (ks.map SN.sy) 12).trans List.map_take.symm
  refine Gv.bindR gm (Gv.bindR saidK ?_)
  rw [cutk]
  have okt : OkL n (ks.take 12) := fun s hs => okk s (List.mem_of_mem_take hs)
  have ltk : (ks.take 12).length ≤ 12 := by rw [List.length_take]; omega
  refine Gv.bindR (g_book _ n (ks.take 12) rfl ltk okt) ((r_lift _ n (ks.take 12) hn rfl okt (by omega)).bind ?_)
  rintro r ⟨L, P, T⟩
  obtain ⟨x, lo, rfl, e2, e4, e5, e6, e7, e8⟩ := told_of T hn okt yb nb fun s hs => kb s (List.mem_of_mem_take hs)
  have id := closed_id e7
  have clo : Gv (w_Order_closed ⟨⟨lo⟩⟩) ⟨⟨lo⟩⟩ := by
    have := g_closed ⟨⟨lo⟩⟩ e4.le (by rw [id]; exact e4)
    rwa [id] at this
  have yc2 := lay_closedL y2
  have nc2 := closed_len l2
  have ge : Gv (W.get (Sm2.a? (Sm2.a x : Sm2 Lifted Stuck))) x := Gv.get rfl
  refine Rn.bind (T := fun b => b = false) ?_ ?_
  · show Rn (W.get (Sm2.a? (Sm2.a x : Sm2 Lifted Stuck)) >>= _) _
    refine ge.bindR ?_
    rw [e2]
    refine Gv.bindR (g_ben lo (andL l1 l2) (e5.trans nb.symm) (by omega)) ?_
    rw [e8 _ yb nb fun s hs => kb s (List.mem_of_mem_take hs)]
    simp only [decide_true, Bool.not_true, Bool.false_eq_true, if_false]
    refine ge.bindR (ge.bindR ?_)
    rw [e2]
    refine Gv.bindR clo (Gv.bindR (g_eq _ _) (Rn.ret ?_))
    rw [decide_eq_true rfl]
    rfl
  rintro _ rfl
  simp only [Bool.false_eq_true, if_false]
  simp only [pb, ba, sq_nx, sq_rt, sq_b, fR_rt, fR_b, fN_nx, fN_b, setW, retW, dropW]
  have ndl : nDays ⟨⟨lo⟩⟩ = n := e5
  have kl := g_keeps_all ⟨⟨lo⟩⟩ (ks.take 12) (by rw [ndl]; exact hz) (by rw [ndl]; exact okt)
  rw [fn _ _ e6] at kl
  refine ge.bindR ?_
  rw [e2]
  refine Gv.bindR kl ?_
  simp only [Option.isNone_none, decide_true, if_true]
  simp only [pb, ba, sq_nx, sq_rt, sq_b, fR_rt, fR_b, fN_nx, fN_b, setW, retW, dropW]
  have c2 : Gv (w_Order_closed ⟨⟨l2⟩⟩) ⟨⟨closedL l2⟩⟩ := g_closed ⟨⟨l2⟩⟩ y2.le yc2
  refine ge.bindR (Gv.bindR c2 (Gv.bindR (g_and' l1 (closedL l2) y1 yc2 (by omega)) ?_))
  rw [e2]
  have ya := lay_andL y1 yc2 (by omega)
  have na := and_len l1 (closedL l2) (by omega)
  refine Gv.bindR (g_ben lo (andL l1 (closedL l2)) (by omega) (by omega)) (Rn.ret ?_)
  rw [e8 _ ya (by omega) fun s hs => kept_and (by omega) s (n1.symm ▸ okt s hs) (mks s (List.mem_of_mem_take hs)).2.1 (by rw [kept_closed s (n2.symm ▸ okt s hs)]; exact (mks s (List.mem_of_mem_take hs)).2.2)]
  rfl
theorem law_true_k15 : ∀ ns : List Int, ns.length ≤ 63 → (w_law_Scr ⟨ns⟩).run (fun b => b = true) fun _ => False := fun ns h => r_law15 ns h _ _ fun _ e => e
end TW
set_option Elab.async false
set_option maxRecDepth 100000
set_option maxHeartbeats 8000000
set_option linter.all false
set_option autoImplicit false

namespace TW
open Pa (rep)
open PaL (repL)
open PySem PySem.Spec PyProof.Rows L2 My

theorem all_mk {P : Program} {w : World} {K : PySem.W.Frag} {h : Heap} {mg : Str → Option Value} {fa : Addr} (X : K.In h) (G : h.Ns mainGlobals mg) (hfa : mg "law" = some (.ref fa))
    {C0 : Addr}
    {C1 : Addr}
    {C2 : Addr}
    {C3 : Addr}
    {C4 : Addr}
    {C5 : Addr}
    {E102 : Addr}
    {E107 : Addr}
    {E109 : Addr}
    {E112 : Addr}
    {E115 : Addr}
    {fp0 : Addr} {odp0 anp0 : Option Addr} {slp0 : Array (Option Value)} {ocp0 kVp0 dcp0 pmp0 cdp0 ctp0 : Value}
    {fp1 : Addr} {odp1 anp1 : Option Addr} {slp1 : Array (Option Value)} {ocp1 kVp1 dcp1 pmp1 cdp1 ctp1 : Value}
    {fp2 : Addr} {odp2 anp2 : Option Addr} {slp2 : Array (Option Value)} {ocp2 kVp2 dcp2 pmp2 cdp2 ctp2 : Value}
    {fp3 : Addr} {odp3 anp3 : Option Addr} {slp3 : Array (Option Value)} {ocp3 kVp3 dcp3 pmp3 cdp3 ctp3 : Value}
    {fp4 : Addr} {odp4 anp4 : Option Addr} {slp4 : Array (Option Value)} {ocp4 kVp4 dcp4 pmp4 cdp4 ctp4 : Value}
    {fp5 : Addr} {odp5 anp5 : Option Addr} {slp5 : Array (Option Value)} {ocp5 kVp5 dcp5 pmp5 cdp5 ctp5 : Value}
    {fp6 : Addr} {odp6 anp6 : Option Addr} {slp6 : Array (Option Value)} {ocp6 kVp6 dcp6 pmp6 cdp6 ctp6 : Value}
    {fp7 : Addr} {odp7 anp7 : Option Addr} {slp7 : Array (Option Value)} {ocp7 kVp7 dcp7 pmp7 cdp7 ctp7 : Value}
    {fp8 : Addr} {odp8 anp8 : Option Addr} {slp8 : Array (Option Value)} {ocp8 kVp8 dcp8 pmp8 cdp8 ctp8 : Value}
    {fp9 : Addr} {odp9 anp9 : Option Addr} {slp9 : Array (Option Value)} {ocp9 kVp9 dcp9 pmp9 cdp9 ctp9 : Value}
    {fp10 : Addr} {odp10 anp10 : Option Addr} {slp10 : Array (Option Value)} {ocp10 kVp10 dcp10 pmp10 cdp10 ctp10 : Value}
    {fp11 : Addr} {odp11 anp11 : Option Addr} {slp11 : Array (Option Value)} {ocp11 kVp11 dcp11 pmp11 cdp11 ctp11 : Value}
    {fp12 : Addr} {odp12 anp12 : Option Addr} {slp12 : Array (Option Value)} {ocp12 kVp12 dcp12 pmp12 cdp12 ctp12 : Value}
    {fp13 : Addr} {odp13 anp13 : Option Addr} {slp13 : Array (Option Value)} {ocp13 kVp13 dcp13 pmp13 cdp13 ctp13 : Value}
    {fp14 : Addr} {odp14 anp14 : Option Addr} {slp14 : Array (Option Value)} {ocp14 kVp14 dcp14 pmp14 cdp14 ctp14 : Value}
    {fp15 : Addr} {odp15 anp15 : Option Addr} {slp15 : Array (Option Value)} {ocp15 kVp15 dcp15 pmp15 cdp15 ctp15 : Value}
    {fp16 : Addr} {odp16 anp16 : Option Addr} {slp16 : Array (Option Value)} {ocp16 kVp16 dcp16 pmp16 cdp16 ctp16 : Value}
    {fp17 : Addr} {odp17 anp17 : Option Addr} {slp17 : Array (Option Value)} {ocp17 kVp17 dcp17 pmp17 cdp17 ctp17 : Value}
    {fp18 : Addr} {odp18 anp18 : Option Addr} {slp18 : Array (Option Value)} {ocp18 kVp18 dcp18 pmp18 cdp18 ctp18 : Value}
    {fp19 : Addr} {odp19 anp19 : Option Addr} {slp19 : Array (Option Value)} {ocp19 kVp19 dcp19 pmp19 cdp19 ctp19 : Value}
    {fp20 : Addr} {odp20 anp20 : Option Addr} {slp20 : Array (Option Value)} {ocp20 kVp20 dcp20 pmp20 cdp20 ctp20 : Value}
    {fp21 : Addr} {odp21 anp21 : Option Addr} {slp21 : Array (Option Value)} {ocp21 kVp21 dcp21 pmp21 cdp21 ctp21 : Value}
    {Tp21 : Addr} {tcp21 : Value} {tdp21 : Option Addr} {tnp21 : Nat} {tsp21 : Array (Option Value)}
    {fp22 : Addr} {odp22 anp22 : Option Addr} {slp22 : Array (Option Value)} {ocp22 kVp22 dcp22 pmp22 cdp22 ctp22 : Value}
    {fp23 : Addr} {odp23 anp23 : Option Addr} {slp23 : Array (Option Value)} {ocp23 kVp23 dcp23 pmp23 cdp23 ctp23 : Value}
    {fp24 : Addr} {odp24 anp24 : Option Addr} {slp24 : Array (Option Value)} {ocp24 kVp24 dcp24 pmp24 cdp24 ctp24 : Value}
    {fp25 : Addr} {odp25 anp25 : Option Addr} {slp25 : Array (Option Value)} {ocp25 kVp25 dcp25 pmp25 cdp25 ctp25 : Value}
    {fp26 : Addr} {odp26 anp26 : Option Addr} {slp26 : Array (Option Value)} {ocp26 kVp26 dcp26 pmp26 cdp26 ctp26 : Value}
    {fp27 : Addr} {odp27 anp27 : Option Addr} {slp27 : Array (Option Value)} {ocp27 kVp27 dcp27 pmp27 cdp27 ctp27 : Value}
    {fp28 : Addr} {odp28 anp28 : Option Addr} {slp28 : Array (Option Value)} {ocp28 kVp28 dcp28 pmp28 cdp28 ctp28 : Value}
    {fp29 : Addr} {odp29 anp29 : Option Addr} {slp29 : Array (Option Value)} {ocp29 kVp29 dcp29 pmp29 cdp29 ctp29 : Value}
    {fp30 : Addr} {odp30 anp30 : Option Addr} {slp30 : Array (Option Value)} {ocp30 kVp30 dcp30 pmp30 cdp30 ctp30 : Value}
    {fp31 : Addr} {odp31 anp31 : Option Addr} {slp31 : Array (Option Value)} {ocp31 kVp31 dcp31 pmp31 cdp31 ctp31 : Value}
    {fp32 : Addr} {odp32 anp32 : Option Addr} {slp32 : Array (Option Value)} {ocp32 kVp32 dcp32 pmp32 cdp32 ctp32 : Value}
    {fp33 : Addr} {odp33 anp33 : Option Addr} {slp33 : Array (Option Value)} {ocp33 kVp33 dcp33 pmp33 cdp33 ctp33 : Value}
    {fp34 : Addr} {odp34 anp34 : Option Addr} {slp34 : Array (Option Value)} {ocp34 kVp34 dcp34 pmp34 cdp34 ctp34 : Value}
    {fp35 : Addr} {odp35 anp35 : Option Addr} {slp35 : Array (Option Value)} {ocp35 kVp35 dcp35 pmp35 cdp35 ctp35 : Value}
    {fp36 : Addr} {odp36 anp36 : Option Addr} {slp36 : Array (Option Value)} {ocp36 kVp36 dcp36 pmp36 cdp36 ctp36 : Value}
    {fp37 : Addr} {odp37 anp37 : Option Addr} {slp37 : Array (Option Value)} {ocp37 kVp37 dcp37 pmp37 cdp37 ctp37 : Value}
    {fp38 : Addr} {odp38 anp38 : Option Addr} {slp38 : Array (Option Value)} {ocp38 kVp38 dcp38 pmp38 cdp38 ctp38 : Value}
    {fp39 : Addr} {odp39 anp39 : Option Addr} {slp39 : Array (Option Value)} {ocp39 kVp39 dcp39 pmp39 cdp39 ctp39 : Value}
    {fp40 : Addr} {odp40 anp40 : Option Addr} {slp40 : Array (Option Value)} {ocp40 kVp40 dcp40 pmp40 cdp40 ctp40 : Value}
    {fp41 : Addr} {odp41 anp41 : Option Addr} {slp41 : Array (Option Value)} {ocp41 kVp41 dcp41 pmp41 cdp41 ctp41 : Value}
    {fp42 : Addr} {odp42 anp42 : Option Addr} {slp42 : Array (Option Value)} {ocp42 kVp42 dcp42 pmp42 cdp42 ctp42 : Value}
    {fp43 : Addr} {odp43 anp43 : Option Addr} {slp43 : Array (Option Value)} {ocp43 kVp43 dcp43 pmp43 cdp43 ctp43 : Value}
    {fp44 : Addr} {odp44 anp44 : Option Addr} {slp44 : Array (Option Value)} {ocp44 kVp44 dcp44 pmp44 cdp44 ctp44 : Value}
    {fp45 : Addr} {odp45 anp45 : Option Addr} {slp45 : Array (Option Value)} {ocp45 kVp45 dcp45 pmp45 cdp45 ctp45 : Value}
    {fp46 : Addr} {odp46 anp46 : Option Addr} {slp46 : Array (Option Value)} {ocp46 kVp46 dcp46 pmp46 cdp46 ctp46 : Value}
    {fp47 : Addr} {odp47 anp47 : Option Addr} {slp47 : Array (Option Value)} {ocp47 kVp47 dcp47 pmp47 cdp47 ctp47 : Value}
    {fp48 : Addr} {odp48 anp48 : Option Addr} {slp48 : Array (Option Value)} {ocp48 kVp48 dcp48 pmp48 cdp48 ctp48 : Value}
    {fp49 : Addr} {odp49 anp49 : Option Addr} {slp49 : Array (Option Value)} {ocp49 kVp49 dcp49 pmp49 cdp49 ctp49 : Value}
    {fp50 : Addr} {odp50 anp50 : Option Addr} {slp50 : Array (Option Value)} {ocp50 kVp50 dcp50 pmp50 cdp50 ctp50 : Value}
    {fp51 : Addr} {odp51 anp51 : Option Addr} {slp51 : Array (Option Value)} {ocp51 kVp51 dcp51 pmp51 cdp51 ctp51 : Value}
    {fp52 : Addr} {odp52 anp52 : Option Addr} {slp52 : Array (Option Value)} {ocp52 kVp52 dcp52 pmp52 cdp52 ctp52 : Value}
    {fp53 : Addr} {odp53 anp53 : Option Addr} {slp53 : Array (Option Value)} {ocp53 kVp53 dcp53 pmp53 cdp53 ctp53 : Value}
    {fp54 : Addr} {odp54 anp54 : Option Addr} {slp54 : Array (Option Value)} {ocp54 kVp54 dcp54 pmp54 cdp54 ctp54 : Value}
    {t_HIGHEST_LAYER : Tok}
    {a_DAY_COUNTS : Addr} {td_DAY_COUNTS : Option Addr} {n_DAY_COUNTS : Nat} {sl_DAY_COUNTS : Array (Option Value)} {t0_DAY_COUNTS t1_DAY_COUNTS t2_DAY_COUNTS t3_DAY_COUNTS : Tok}
    {a_KEPT_WORDS : Addr} {td_KEPT_WORDS : Option Addr} {n_KEPT_WORDS : Nat} {sl_KEPT_WORDS : Array (Option Value)} {t0_KEPT_WORDS t1_KEPT_WORDS t2_KEPT_WORDS t3_KEPT_WORDS t4_KEPT_WORDS t5_KEPT_WORDS t6_KEPT_WORDS t7_KEPT_WORDS t8_KEPT_WORDS : Tok}
    {t_MOST_MARKS : Tok}
    {t_LONGEST_NAME : Tok}
    {t_HIGHEST_DAY_SET : Tok}
    {t_MOST_SAYINGS : Tok}
    {nmE102 qE102 : Str} {NE102 : Addr} {bsE102 : List Value} {snE102 : List Str} {subE102 : List Value} {abE102 : Bool} {colE102 : Option Bool} {ddE102 : Option Addr} {m0E102 m1E102 m2E102 m3E102 m5E102 : Option Value}
    {BE102_0 : Addr}
    {nmE107 qE107 : Str} {NE107 : Addr} {bsE107 : List Value} {snE107 : List Str} {subE107 : List Value} {abE107 : Bool} {colE107 : Option Bool} {ddE107 : Option Addr} {m0E107 m1E107 m2E107 m3E107 m5E107 : Option Value}
    {BE107_0 : Addr}
    {nmE109 qE109 : Str} {NE109 : Addr} {bsE109 : List Value} {snE109 : List Str} {subE109 : List Value} {abE109 : Bool} {colE109 : Option Bool} {ddE109 : Option Addr} {m0E109 m1E109 m2E109 m3E109 m5E109 : Option Value}
    {BE109_0 : Addr}
    {nmE112 qE112 : Str} {NE112 : Addr} {bsE112 : List Value} {snE112 : List Str} {subE112 : List Value} {abE112 : Bool} {colE112 : Option Bool} {ddE112 : Option Addr} {m0E112 m1E112 m2E112 m3E112 m5E112 : Option Value}
    {BE112_0 : Addr}
    {nmE115 qE115 : Str} {NE115 : Addr} {bsE115 : List Value} {snE115 : List Str} {subE115 : List Value} {abE115 : Bool} {colE115 : Option Bool} {ddE115 : Option Addr} {m0E115 m1E115 m2E115 m3E115 m5E115 : Option Value}
    {BE115_0 : Addr}
    (lp0 : K.lookup fp0 = some ⟨ocp0, odp0, .func (PySem.W.fnOf "_law_bag" "_law_bag" (defArgs s_l_bag) (defBody s_l_bag) (defScope s_l_bag) .none kVp0 dcp0 pmp0 anp0 cdp0 ctp0), slp0⟩)
    (cp0 : PySem.W.codeIn K cdp0 "_law_bag" = true)
    (kp0 : PySem.W.keepIn K (.ref fp0) = true)
    (ap0 : PySem.W.nsIn K mainGlobals "_law_bag" = some (some (.ref fp0)))
    (lp1 : K.lookup fp1 = some ⟨ocp1, odp1, .func (PySem.W.fnOf "_law_take" "_law_take" (defArgs s_l_take) (defBody s_l_take) (defScope s_l_take) .none kVp1 dcp1 pmp1 anp1 cdp1 ctp1), slp1⟩)
    (cp1 : PySem.W.codeIn K cdp1 "_law_take" = true)
    (kp1 : PySem.W.keepIn K (.ref fp1) = true)
    (ap1 : PySem.W.nsIn K mainGlobals "_law_take" = some (some (.ref fp1)))
    (lp2 : K.lookup fp2 = some ⟨ocp2, odp2, .func (PySem.W.fnOf "_law_of" "_law_of" (defArgs s_l_of) (defBody s_l_of) (defScope s_l_of) .none kVp2 dcp2 pmp2 anp2 cdp2 ctp2), slp2⟩)
    (cp2 : PySem.W.codeIn K cdp2 "_law_of" = true)
    (kp2 : PySem.W.keepIn K (.ref fp2) = true)
    (ap2 : PySem.W.nsIn K mainGlobals "_law_of" = some (some (.ref fp2)))
    (lp3 : K.lookup fp3 = some ⟨ocp3, odp3, .func (PySem.W.fnOf "_law_layers" "_law_layers" (defArgs s_l_layers) (defBody s_l_layers) (defScope s_l_layers) .none kVp3 dcp3 pmp3 anp3 cdp3 ctp3), slp3⟩)
    (cp3 : PySem.W.codeIn K cdp3 "_law_layers" = true)
    (kp3 : PySem.W.keepIn K (.ref fp3) = true)
    (ap3 : PySem.W.nsIn K mainGlobals "_law_layers" = some (some (.ref fp3)))
    (lp4 : K.lookup fp4 = some ⟨ocp4, odp4, .func (PySem.W.fnOf "is_number" "is_number" (defArgs s_is_number) (defBody s_is_number) (defScope s_is_number) .none kVp4 dcp4 pmp4 anp4 cdp4 ctp4), slp4⟩)
    (cp4 : PySem.W.codeIn K cdp4 "is_number" = true)
    (kp4 : PySem.W.keepIn K (.ref fp4) = true)
    (ap4 : PySem.W.nsIn K mainGlobals "is_number" = some (some (.ref fp4)))
    (lp5 : K.lookup fp5 = some ⟨ocp5, odp5, .func (PySem.W.fnOf "is_whole" "is_whole" (defArgs s_is_whole) (defBody s_is_whole) (defScope s_is_whole) .none kVp5 dcp5 pmp5 anp5 cdp5 ctp5), slp5⟩)
    (cp5 : PySem.W.codeIn K cdp5 "is_whole" = true)
    (kp5 : PySem.W.keepIn K (.ref fp5) = true)
    (ap5 : PySem.W.nsIn K mainGlobals "is_whole" = some (some (.ref fp5)))
    (lp6 : K.lookup fp6 = some ⟨ocp6, odp6, .func (PySem.W.fnOf "check_layers" "check_layers" (defArgs s_check_layers) (defBody s_check_layers) (defScope s_check_layers) .none kVp6 dcp6 pmp6 anp6 cdp6 ctp6), slp6⟩)
    (cp6 : PySem.W.codeIn K cdp6 "check_layers" = true)
    (kp6 : PySem.W.keepIn K (.ref fp6) = true)
    (ap6 : PySem.W.nsIn K mainGlobals "check_layers" = some (some (.ref fp6)))
    (lp7 : K.lookup fp7 = some ⟨ocp7, odp7, .func (PySem.W.fnOf "__init__" "Order.__init__" (defArgs s_Order__init) (defBody s_Order__init) (defScope s_Order__init) .none kVp7 dcp7 pmp7 anp7 cdp7 ctp7), slp7⟩)
    (cp7 : PySem.W.codeIn K cdp7 "Order.__init__" = true)
    (kp7 : PySem.W.keepIn K (.ref fp7) = true)
    (lp8 : K.lookup fp8 = some ⟨ocp8, odp8, .func (PySem.W.fnOf "_check_length" "Order._check_length" (defArgs s_Order_check_length) (defBody s_Order_check_length) (defScope s_Order_check_length) .none kVp8 dcp8 pmp8 anp8 cdp8 ctp8), slp8⟩)
    (cp8 : PySem.W.codeIn K cdp8 "Order._check_length" = true)
    (kp8 : PySem.W.keepIn K (.ref fp8) = true)
    (lp9 : K.lookup fp9 = some ⟨ocp9, odp9, .func (PySem.W.fnOf "__and__" "Order.__and__" (defArgs s_Order__and) (defBody s_Order__and) (defScope s_Order__and) .none kVp9 dcp9 pmp9 anp9 cdp9 ctp9), slp9⟩)
    (cp9 : PySem.W.codeIn K cdp9 "Order.__and__" = true)
    (kp9 : PySem.W.keepIn K (.ref fp9) = true)
    (lp10 : K.lookup fp10 = some ⟨ocp10, odp10, .func (PySem.W.fnOf "__eq__" "Order.__eq__" (defArgs s_Order__eq) (defBody s_Order__eq) (defScope s_Order__eq) .none kVp10 dcp10 pmp10 anp10 cdp10 ctp10), slp10⟩)
    (cp10 : PySem.W.codeIn K cdp10 "Order.__eq__" = true)
    (kp10 : PySem.W.keepIn K (.ref fp10) = true)
    (lp11 : K.lookup fp11 = some ⟨ocp11, odp11, .func (PySem.W.fnOf "_law_beneath" "_law_beneath" (defArgs s_l_beneath) (defBody s_l_beneath) (defScope s_l_beneath) .none kVp11 dcp11 pmp11 anp11 cdp11 ctp11), slp11⟩)
    (cp11 : PySem.W.codeIn K cdp11 "_law_beneath" = true)
    (kp11 : PySem.W.keepIn K (.ref fp11) = true)
    (ap11 : PySem.W.nsIn K mainGlobals "_law_beneath" = some (some (.ref fp11)))
    (lp12 : K.lookup fp12 = some ⟨ocp12, odp12, .func (PySem.W.fnOf "beneath" "Order.beneath" (defArgs s_Order_beneath) (defBody s_Order_beneath) (defScope s_Order_beneath) .none kVp12 dcp12 pmp12 anp12 cdp12 ctp12), slp12⟩)
    (cp12 : PySem.W.codeIn K cdp12 "Order.beneath" = true)
    (kp12 : PySem.W.keepIn K (.ref fp12) = true)
    (lp13 : K.lookup fp13 = some ⟨ocp13, odp13, .func (PySem.W.fnOf "_law_flag" "_law_flag" (defArgs s_l_flag) (defBody s_l_flag) (defScope s_l_flag) .none kVp13 dcp13 pmp13 anp13 cdp13 ctp13), slp13⟩)
    (cp13 : PySem.W.codeIn K cdp13 "_law_flag" = true)
    (kp13 : PySem.W.keepIn K (.ref fp13) = true)
    (ap13 : PySem.W.nsIn K mainGlobals "_law_flag" = some (some (.ref fp13)))
    (lp14 : K.lookup fp14 = some ⟨ocp14, odp14, .func (PySem.W.fnOf "_law_below_both" "_law_below_both" (defArgs s_l_below_both) (defBody s_l_below_both) (defScope s_l_below_both) .none kVp14 dcp14 pmp14 anp14 cdp14 ctp14), slp14⟩)
    (cp14 : PySem.W.codeIn K cdp14 "_law_below_both" = true)
    (kp14 : PySem.W.keepIn K (.ref fp14) = true)
    (ap14 : PySem.W.nsIn K mainGlobals "_law_below_both" = some (some (.ref fp14)))
    (lp15 : K.lookup fp15 = some ⟨ocp15, odp15, .func (PySem.W.fnOf "_law_toward" "_law_toward" (defArgs s_l_toward) (defBody s_l_toward) (defScope s_l_toward) .none kVp15 dcp15 pmp15 anp15 cdp15 ctp15), slp15⟩)
    (cp15 : PySem.W.codeIn K cdp15 "_law_toward" = true)
    (kp15 : PySem.W.keepIn K (.ref fp15) = true)
    (ap15 : PySem.W.nsIn K mainGlobals "_law_toward" = some (some (.ref fp15)))
    (lp16 : K.lookup fp16 = some ⟨ocp16, odp16, .func (PySem.W.fnOf "_law_any" "_law_any" (defArgs s_l_any) (defBody s_l_any) (defScope s_l_any) .none kVp16 dcp16 pmp16 anp16 cdp16 ctp16), slp16⟩)
    (cp16 : PySem.W.codeIn K cdp16 "_law_any" = true)
    (kp16 : PySem.W.keepIn K (.ref fp16) = true)
    (ap16 : PySem.W.nsIn K mainGlobals "_law_any" = some (some (.ref fp16)))
    (lp17 : K.lookup fp17 = some ⟨ocp17, odp17, .func (PySem.W.fnOf "_law_drawn" "_law_drawn" (defArgs s_l_drawn) (defBody s_l_drawn) (defScope s_l_drawn) .none kVp17 dcp17 pmp17 anp17 cdp17 ctp17), slp17⟩)
    (cp17 : PySem.W.codeIn K cdp17 "_law_drawn" = true)
    (kp17 : PySem.W.keepIn K (.ref fp17) = true)
    (ap17 : PySem.W.nsIn K mainGlobals "_law_drawn" = some (some (.ref fp17)))
    (lp18 : K.lookup fp18 = some ⟨ocp18, odp18, .func (PySem.W.fnOf "_law_sides" "_law_sides" (defArgs s_l_sides) (defBody s_l_sides) (defScope s_l_sides) .none kVp18 dcp18 pmp18 anp18 cdp18 ctp18), slp18⟩)
    (cp18 : PySem.W.codeIn K cdp18 "_law_sides" = true)
    (kp18 : PySem.W.keepIn K (.ref fp18) = true)
    (ap18 : PySem.W.nsIn K mainGlobals "_law_sides" = some (some (.ref fp18)))
    (lp19 : K.lookup fp19 = some ⟨ocp19, odp19, .func (PySem.W.fnOf "_law_keeps" "_law_keeps" (defArgs s_l_keeps) (defBody s_l_keeps) (defScope s_l_keeps) .none kVp19 dcp19 pmp19 anp19 cdp19 ctp19), slp19⟩)
    (cp19 : PySem.W.codeIn K cdp19 "_law_keeps" = true)
    (kp19 : PySem.W.keepIn K (.ref fp19) = true)
    (ap19 : PySem.W.nsIn K mainGlobals "_law_keeps" = some (some (.ref fp19)))
    (lp20 : K.lookup fp20 = some ⟨ocp20, odp20, .func (PySem.W.fnOf "is_day_set" "is_day_set" (defArgs s_is_day_set) (defBody s_is_day_set) (defScope s_is_day_set) .none kVp20 dcp20 pmp20 anp20 cdp20 ctp20), slp20⟩)
    (cp20 : PySem.W.codeIn K cdp20 "is_day_set" = true)
    (kp20 : PySem.W.keepIn K (.ref fp20) = true)
    (ap20 : PySem.W.nsIn K mainGlobals "is_day_set" = some (some (.ref fp20)))
    (lp21 : K.lookup fp21 = some ⟨ocp21, odp21, .func (PySem.W.fnOf "__init__" "Saying.__init__" (defArgs s_Saying__init) (defBody s_Saying__init) (defScope s_Saying__init) (.ref Tp21) kVp21 dcp21 pmp21 anp21 cdp21 ctp21), slp21⟩)
    (cp21 : PySem.W.codeIn K cdp21 "Saying.__init__" = true)
    (kp21 : PySem.W.keepIn K (.ref fp21) = true)
    (dp21 : K.lookup Tp21 = some ⟨tcp21, tdp21, .seq #[.bool true] tnp21, tsp21⟩)
    (lp22 : K.lookup fp22 = some ⟨ocp22, odp22, .func (PySem.W.fnOf "_law_said" "_law_said" (defArgs s_l_said) (defBody s_l_said) (defScope s_l_said) .none kVp22 dcp22 pmp22 anp22 cdp22 ctp22), slp22⟩)
    (cp22 : PySem.W.codeIn K cdp22 "_law_said" = true)
    (kp22 : PySem.W.keepIn K (.ref fp22) = true)
    (ap22 : PySem.W.nsIn K mainGlobals "_law_said" = some (some (.ref fp22)))
    (lp23 : K.lookup fp23 = some ⟨ocp23, odp23, .func (PySem.W.fnOf "_check_days" "Order._check_days" (defArgs s_Order_check_days) (defBody s_Order_check_days) (defScope s_Order_check_days) .none kVp23 dcp23 pmp23 anp23 cdp23 ctp23), slp23⟩)
    (cp23 : PySem.W.codeIn K cdp23 "Order._check_days" = true)
    (kp23 : PySem.W.keepIn K (.ref fp23) = true)
    (lp24 : K.lookup fp24 = some ⟨ocp24, odp24, .func (PySem.W.fnOf "days_in" "days_in" (defArgs s_days_in) (defBody s_days_in) (defScope s_days_in) .none kVp24 dcp24 pmp24 anp24 cdp24 ctp24), slp24⟩)
    (cp24 : PySem.W.codeIn K cdp24 "days_in" = true)
    (kp24 : PySem.W.keepIn K (.ref fp24) = true)
    (ap24 : PySem.W.nsIn K mainGlobals "days_in" = some (some (.ref fp24)))
    (lp25 : K.lookup fp25 = some ⟨ocp25, odp25, .func (PySem.W.fnOf "least" "Order.least" (defArgs s_Order_least) (defBody s_Order_least) (defScope s_Order_least) .none kVp25 dcp25 pmp25 anp25 cdp25 ctp25), slp25⟩)
    (cp25 : PySem.W.codeIn K cdp25 "Order.least" = true)
    (kp25 : PySem.W.keepIn K (.ref fp25) = true)
    (lp26 : K.lookup fp26 = some ⟨ocp26, odp26, .func (PySem.W.fnOf "keeps" "Order.keeps" (defArgs s_Order_keeps) (defBody s_Order_keeps) (defScope s_Order_keeps) .none kVp26 dcp26 pmp26 anp26 cdp26 ctp26), slp26⟩)
    (cp26 : PySem.W.codeIn K cdp26 "Order.keeps" = true)
    (kp26 : PySem.W.keepIn K (.ref fp26) = true)
    (lp27 : K.lookup fp27 = some ⟨ocp27, odp27, .func (PySem.W.fnOf "_first_not_kept" "Order._first_not_kept" (defArgs s_Order_first_not_kept) (defBody s_Order_first_not_kept) (defScope s_Order_first_not_kept) .none kVp27 dcp27 pmp27 anp27 cdp27 ctp27), slp27⟩)
    (cp27 : PySem.W.codeIn K cdp27 "Order._first_not_kept" = true)
    (kp27 : PySem.W.keepIn K (.ref fp27) = true)
    (lp28 : K.lookup fp28 = some ⟨ocp28, odp28, .func (PySem.W.fnOf "keeps_all" "Order.keeps_all" (defArgs s_Order_keeps_all) (defBody s_Order_keeps_all) (defScope s_Order_keeps_all) .none kVp28 dcp28 pmp28 anp28 cdp28 ctp28), slp28⟩)
    (cp28 : PySem.W.codeIn K cdp28 "Order.keeps_all" = true)
    (kp28 : PySem.W.keepIn K (.ref fp28) = true)
    (lp29 : K.lookup fp29 = some ⟨ocp29, odp29, .func (PySem.W.fnOf "__call__" "Order.__call__" (defArgs s_Order__call) (defBody s_Order__call) (defScope s_Order__call) .none kVp29 dcp29 pmp29 anp29 cdp29 ctp29), slp29⟩)
    (cp29 : PySem.W.codeIn K cdp29 "Order.__call__" = true)
    (kp29 : PySem.W.keepIn K (.ref fp29) = true)
    (lp30 : K.lookup fp30 = some ⟨ocp30, odp30, .func (PySem.W.fnOf "closed" "Order.closed" (defArgs s_Order_closed) (defBody s_Order_closed) (defScope s_Order_closed) .none kVp30 dcp30 pmp30 anp30 cdp30 ctp30), slp30⟩)
    (cp30 : PySem.W.codeIn K cdp30 "Order.closed" = true)
    (kp30 : PySem.W.keepIn K (.ref fp30) = true)
    (lp31 : K.lookup fp31 = some ⟨ocp31, odp31, .func (PySem.W.fnOf "_law_closed" "_law_closed" (defArgs s_l_closed) (defBody s_l_closed) (defScope s_l_closed) .none kVp31 dcp31 pmp31 anp31 cdp31 ctp31), slp31⟩)
    (cp31 : PySem.W.codeIn K cdp31 "_law_closed" = true)
    (kp31 : PySem.W.keepIn K (.ref fp31) = true)
    (ap31 : PySem.W.nsIn K mainGlobals "_law_closed" = some (some (.ref fp31)))
    (lp32 : K.lookup fp32 = some ⟨ocp32, odp32, .func (PySem.W.fnOf "name_fault" "name_fault" (defArgs s_name_fault) (defBody s_name_fault) (defScope s_name_fault) .none kVp32 dcp32 pmp32 anp32 cdp32 ctp32), slp32⟩)
    (cp32 : PySem.W.codeIn K cdp32 "name_fault" = true)
    (kp32 : PySem.W.keepIn K (.ref fp32) = true)
    (ap32 : PySem.W.nsIn K mainGlobals "name_fault" = some (some (.ref fp32)))
    (lp33 : K.lookup fp33 = some ⟨ocp33, odp33, .func (PySem.W.fnOf "check_names" "check_names" (defArgs s_check_names) (defBody s_check_names) (defScope s_check_names) .none kVp33 dcp33 pmp33 anp33 cdp33 ctp33), slp33⟩)
    (cp33 : PySem.W.codeIn K cdp33 "check_names" = true)
    (kp33 : PySem.W.keepIn K (.ref fp33) = true)
    (ap33 : PySem.W.nsIn K mainGlobals "check_names" = some (some (.ref fp33)))
    (lp34 : K.lookup fp34 = some ⟨ocp34, odp34, .func (PySem.W.fnOf "__init__" "Marks.__init__" (defArgs s_Marks__init) (defBody s_Marks__init) (defScope s_Marks__init) .none kVp34 dcp34 pmp34 anp34 cdp34 ctp34), slp34⟩)
    (cp34 : PySem.W.codeIn K cdp34 "Marks.__init__" = true)
    (kp34 : PySem.W.keepIn K (.ref fp34) = true)
    (lp35 : K.lookup fp35 = some ⟨ocp35, odp35, .func (PySem.W.fnOf "_law_marks" "_law_marks" (defArgs s_l_marks) (defBody s_l_marks) (defScope s_l_marks) .none kVp35 dcp35 pmp35 anp35 cdp35 ctp35), slp35⟩)
    (cp35 : PySem.W.codeIn K cdp35 "_law_marks" = true)
    (kp35 : PySem.W.keepIn K (.ref fp35) = true)
    (ap35 : PySem.W.nsIn K mainGlobals "_law_marks" = some (some (.ref fp35)))
    (lp36 : K.lookup fp36 = some ⟨ocp36, odp36, .func (PySem.W.fnOf "within" "within" (defArgs s_within) (defBody s_within) (defScope s_within) .none kVp36 dcp36 pmp36 anp36 cdp36 ctp36), slp36⟩)
    (cp36 : PySem.W.codeIn K cdp36 "within" = true)
    (kp36 : PySem.W.keepIn K (.ref fp36) = true)
    (ap36 : PySem.W.nsIn K mainGlobals "within" = some (some (.ref fp36)))
    (lp37 : K.lookup fp37 = some ⟨ocp37, odp37, .func (PySem.W.fnOf "has_days" "has_days" (defArgs s_has_days) (defBody s_has_days) (defScope s_has_days) .none kVp37 dcp37 pmp37 anp37 cdp37 ctp37), slp37⟩)
    (cp37 : PySem.W.codeIn K cdp37 "has_days" = true)
    (kp37 : PySem.W.keepIn K (.ref fp37) = true)
    (ap37 : PySem.W.nsIn K mainGlobals "has_days" = some (some (.ref fp37)))
    (lp38 : K.lookup fp38 = some ⟨ocp38, odp38, .func (PySem.W.fnOf "check_book" "check_book" (defArgs s_check_book) (defBody s_check_book) (defScope s_check_book) .none kVp38 dcp38 pmp38 anp38 cdp38 ctp38), slp38⟩)
    (cp38 : PySem.W.codeIn K cdp38 "check_book" = true)
    (kp38 : PySem.W.keepIn K (.ref fp38) = true)
    (ap38 : PySem.W.nsIn K mainGlobals "check_book" = some (some (.ref fp38)))
    (lp39 : K.lookup fp39 = some ⟨ocp39, odp39, .func (PySem.W.fnOf "__init__" "Book.__init__" (defArgs s_Book__init) (defBody s_Book__init) (defScope s_Book__init) .none kVp39 dcp39 pmp39 anp39 cdp39 ctp39), slp39⟩)
    (cp39 : PySem.W.codeIn K cdp39 "Book.__init__" = true)
    (kp39 : PySem.W.keepIn K (.ref fp39) = true)
    (lp40 : K.lookup fp40 = some ⟨ocp40, odp40, .func (PySem.W.fnOf "check_fitting" "check_fitting" (defArgs s_check_fitting) (defBody s_check_fitting) (defScope s_check_fitting) .none kVp40 dcp40 pmp40 anp40 cdp40 ctp40), slp40⟩)
    (cp40 : PySem.W.codeIn K cdp40 "check_fitting" = true)
    (kp40 : PySem.W.keepIn K (.ref fp40) = true)
    (ap40 : PySem.W.nsIn K mainGlobals "check_fitting" = some (some (.ref fp40)))
    (lp41 : K.lookup fp41 = some ⟨ocp41, odp41, .func (PySem.W.fnOf "check_days" "check_days" (defArgs s_check_days) (defBody s_check_days) (defScope s_check_days) .none kVp41 dcp41 pmp41 anp41 cdp41 ctp41), slp41⟩)
    (cp41 : PySem.W.codeIn K cdp41 "check_days" = true)
    (kp41 : PySem.W.keepIn K (.ref fp41) = true)
    (ap41 : PySem.W.nsIn K mainGlobals "check_days" = some (some (.ref fp41)))
    (lp42 : K.lookup fp42 = some ⟨ocp42, odp42, .func (PySem.W.fnOf "set_of" "set_of" (defArgs s_set_of) (defBody s_set_of) (defScope s_set_of) .none kVp42 dcp42 pmp42 anp42 cdp42 ctp42), slp42⟩)
    (cp42 : PySem.W.codeIn K cdp42 "set_of" = true)
    (kp42 : PySem.W.keepIn K (.ref fp42) = true)
    (ap42 : PySem.W.nsIn K mainGlobals "set_of" = some (some (.ref fp42)))
    (lp43 : K.lookup fp43 = some ⟨ocp43, odp43, .func (PySem.W.fnOf "stay" "stay" (defArgs s_stay) (defBody s_stay) (defScope s_stay) .none kVp43 dcp43 pmp43 anp43 cdp43 ctp43), slp43⟩)
    (cp43 : PySem.W.codeIn K cdp43 "stay" = true)
    (kp43 : PySem.W.keepIn K (.ref fp43) = true)
    (ap43 : PySem.W.nsIn K mainGlobals "stay" = some (some (.ref fp43)))
    (lp44 : K.lookup fp44 = some ⟨ocp44, odp44, .func (PySem.W.fnOf "layer_behind" "layer_behind" (defArgs s_layer_behind) (defBody s_layer_behind) (defScope s_layer_behind) .none kVp44 dcp44 pmp44 anp44 cdp44 ctp44), slp44⟩)
    (cp44 : PySem.W.codeIn K cdp44 "layer_behind" = true)
    (kp44 : PySem.W.keepIn K (.ref fp44) = true)
    (ap44 : PySem.W.nsIn K mainGlobals "layer_behind" = some (some (.ref fp44)))
    (lp45 : K.lookup fp45 = some ⟨ocp45, odp45, .func (PySem.W.fnOf "climb" "climb" (defArgs s_climb) (defBody s_climb) (defScope s_climb) .none kVp45 dcp45 pmp45 anp45 cdp45 ctp45), slp45⟩)
    (cp45 : PySem.W.codeIn K cdp45 "climb" = true)
    (kp45 : PySem.W.keepIn K (.ref fp45) = true)
    (ap45 : PySem.W.nsIn K mainGlobals "climb" = some (some (.ref fp45)))
    (lp46 : K.lookup fp46 = some ⟨ocp46, odp46, .func (PySem.W.fnOf "__init__" "Lifted.__init__" (defArgs s_Lifted__init) (defBody s_Lifted__init) (defScope s_Lifted__init) .none kVp46 dcp46 pmp46 anp46 cdp46 ctp46), slp46⟩)
    (cp46 : PySem.W.codeIn K cdp46 "Lifted.__init__" = true)
    (kp46 : PySem.W.keepIn K (.ref fp46) = true)
    (lp47 : K.lookup fp47 = some ⟨ocp47, odp47, .func (PySem.W.fnOf "__init__" "Stuck.__init__" (defArgs s_Stuck__init) (defBody s_Stuck__init) (defScope s_Stuck__init) .none kVp47 dcp47 pmp47 anp47 cdp47 ctp47), slp47⟩)
    (cp47 : PySem.W.codeIn K cdp47 "Stuck.__init__" = true)
    (kp47 : PySem.W.keepIn K (.ref fp47) = true)
    (lp48 : K.lookup fp48 = some ⟨ocp48, odp48, .func (PySem.W.fnOf "lift" "lift" (defArgs s_lift) (defBody s_lift) (defScope s_lift) .none kVp48 dcp48 pmp48 anp48 cdp48 ctp48), slp48⟩)
    (cp48 : PySem.W.codeIn K cdp48 "lift" = true)
    (kp48 : PySem.W.keepIn K (.ref fp48) = true)
    (ap48 : PySem.W.nsIn K mainGlobals "lift" = some (some (.ref fp48)))
    (lp49 : K.lookup fp49 = some ⟨ocp49, odp49, .func (PySem.W.fnOf "law" "law" (defArgs s_law) (defBody s_law) (defScope s_law) .none kVp49 dcp49 pmp49 anp49 cdp49 ctp49), slp49⟩)
    (cp49 : PySem.W.codeIn K cdp49 "law" = true)
    (kp49 : PySem.W.keepIn K (.ref fp49) = true)
    (ap49 : PySem.W.nsIn K mainGlobals "law" = some (some (.ref fp49)))
    (lp50 : K.lookup fp50 = some ⟨ocp50, odp50, .func (PySem.W.fnOf "__init__" "BadMarks.__init__" (defArgs s_BadMarks__init) (defBody s_BadMarks__init) (defScope s_BadMarks__init) .none kVp50 dcp50 pmp50 anp50 cdp50 ctp50), slp50⟩)
    (cp50 : PySem.W.codeIn K cdp50 "BadMarks.__init__" = true)
    (kp50 : PySem.W.keepIn K (.ref fp50) = true)
    (lp51 : K.lookup fp51 = some ⟨ocp51, odp51, .func (PySem.W.fnOf "__init__" "BadSaying.__init__" (defArgs s_BadSaying__init) (defBody s_BadSaying__init) (defScope s_BadSaying__init) .none kVp51 dcp51 pmp51 anp51 cdp51 ctp51), slp51⟩)
    (cp51 : PySem.W.codeIn K cdp51 "BadSaying.__init__" = true)
    (kp51 : PySem.W.keepIn K (.ref fp51) = true)
    (lp52 : K.lookup fp52 = some ⟨ocp52, odp52, .func (PySem.W.fnOf "__init__" "BadBook.__init__" (defArgs s_BadBook__init) (defBody s_BadBook__init) (defScope s_BadBook__init) .none kVp52 dcp52 pmp52 anp52 cdp52 ctp52), slp52⟩)
    (cp52 : PySem.W.codeIn K cdp52 "BadBook.__init__" = true)
    (kp52 : PySem.W.keepIn K (.ref fp52) = true)
    (lp53 : K.lookup fp53 = some ⟨ocp53, odp53, .func (PySem.W.fnOf "__init__" "OtherDays.__init__" (defArgs s_OtherDays__init) (defBody s_OtherDays__init) (defScope s_OtherDays__init) .none kVp53 dcp53 pmp53 anp53 cdp53 ctp53), slp53⟩)
    (cp53 : PySem.W.codeIn K cdp53 "OtherDays.__init__" = true)
    (kp53 : PySem.W.keepIn K (.ref fp53) = true)
    (lp54 : K.lookup fp54 = some ⟨ocp54, odp54, .func (PySem.W.fnOf "__init__" "BadOrder.__init__" (defArgs s_BadOrder__init) (defBody s_BadOrder__init) (defScope s_BadOrder__init) .none kVp54 dcp54 pmp54 anp54 cdp54 ctp54), slp54⟩)
    (cp54 : PySem.W.codeIn K cdp54 "BadOrder.__init__" = true)
    (kp54 : PySem.W.keepIn K (.ref fp54) = true)
    (C3Mk : PySem.W.makesIn K C3 = true)
    (C3In : PySem.W.findIn K (.ref C3) "__init__" = some (some (.ref fp39)))
    (C3If : PySem.W.isFn K (.ref fp39) = true)
    (C3Kp : PySem.W.keepIn K (.ref C3) = true)
    (C4Mk : PySem.W.makesIn K C4 = true)
    (C4In : PySem.W.findIn K (.ref C4) "__init__" = some (some (.ref fp46)))
    (C4If : PySem.W.isFn K (.ref fp46) = true)
    (C4Kp : PySem.W.keepIn K (.ref C4) = true)
    (C2Mk : PySem.W.makesIn K C2 = true)
    (C2In : PySem.W.findIn K (.ref C2) "__init__" = some (some (.ref fp34)))
    (C2If : PySem.W.isFn K (.ref fp34) = true)
    (C2Kp : PySem.W.keepIn K (.ref C2) = true)
    (C0Mk : PySem.W.makesIn K C0 = true)
    (C0In : PySem.W.findIn K (.ref C0) "__init__" = some (some (.ref fp7)))
    (C0If : PySem.W.isFn K (.ref fp7) = true)
    (C0Kp : PySem.W.keepIn K (.ref C0) = true)
    (xp12 : PySem.W.findIn K (.ref C0) "beneath" = some (some (.ref fp12)))
    (xfp12 : PySem.W.isFn K (.ref fp12) = true)
    (xp23 : PySem.W.findIn K (.ref C0) "_check_days" = some (some (.ref fp23)))
    (xfp23 : PySem.W.isFn K (.ref fp23) = true)
    (xp8 : PySem.W.findIn K (.ref C0) "_check_length" = some (some (.ref fp8)))
    (xfp8 : PySem.W.isFn K (.ref fp8) = true)
    (xp30 : PySem.W.findIn K (.ref C0) "closed" = some (some (.ref fp30)))
    (xfp30 : PySem.W.isFn K (.ref fp30) = true)
    (xp27 : PySem.W.findIn K (.ref C0) "_first_not_kept" = some (some (.ref fp27)))
    (xfp27 : PySem.W.isFn K (.ref fp27) = true)
    (xp26 : PySem.W.findIn K (.ref C0) "keeps" = some (some (.ref fp26)))
    (xfp26 : PySem.W.isFn K (.ref fp26) = true)
    (xp28 : PySem.W.findIn K (.ref C0) "keeps_all" = some (some (.ref fp28)))
    (xfp28 : PySem.W.isFn K (.ref fp28) = true)
    (xp25 : PySem.W.findIn K (.ref C0) "least" = some (some (.ref fp25)))
    (xfp25 : PySem.W.isFn K (.ref fp25) = true)
    (C1Mk : PySem.W.makesIn K C1 = true)
    (C1In : PySem.W.findIn K (.ref C1) "__init__" = some (some (.ref fp21)))
    (C1If : PySem.W.isFn K (.ref fp21) = true)
    (C1Kp : PySem.W.keepIn K (.ref C1) = true)
    (C5Mk : PySem.W.makesIn K C5 = true)
    (C5In : PySem.W.findIn K (.ref C5) "__init__" = some (some (.ref fp47)))
    (C5If : PySem.W.isFn K (.ref fp47) = true)
    (C5Kp : PySem.W.keepIn K (.ref C5) = true)
    (C3Pg : PySem.W.plainGet K C3 Str.empty = true)
    (C3Hd : PySem.W.hasDictIn K C3 = true)
    (C3Po : PySem.W.plainOver K C3 = true)
    (C3Sa : PySem.W.findIn K (.ref C3) "__setattr__" = some (some (.builtin "object.__setattr__")))
    (C4Pg : PySem.W.plainGet K C4 Str.empty = true)
    (C4Hd : PySem.W.hasDictIn K C4 = true)
    (C4Po : PySem.W.plainOver K C4 = true)
    (C4Sa : PySem.W.findIn K (.ref C4) "__setattr__" = some (some (.builtin "object.__setattr__")))
    (C2Pg : PySem.W.plainGet K C2 Str.empty = true)
    (C2Hd : PySem.W.hasDictIn K C2 = true)
    (C2Po : PySem.W.plainOver K C2 = true)
    (C2Sa : PySem.W.findIn K (.ref C2) "__setattr__" = some (some (.builtin "object.__setattr__")))
    (C0Pg : PySem.W.plainGet K C0 Str.empty = true)
    (C0Hd : PySem.W.hasDictIn K C0 = true)
    (C0Po : PySem.W.plainOver K C0 = true)
    (C0Sa : PySem.W.findIn K (.ref C0) "__setattr__" = some (some (.builtin "object.__setattr__")))
    (C1Pg : PySem.W.plainGet K C1 Str.empty = true)
    (C1Hd : PySem.W.hasDictIn K C1 = true)
    (C1Po : PySem.W.plainOver K C1 = true)
    (C1Sa : PySem.W.findIn K (.ref C1) "__setattr__" = some (some (.builtin "object.__setattr__")))
    (C5Pg : PySem.W.plainGet K C5 Str.empty = true)
    (C5Hd : PySem.W.hasDictIn K C5 = true)
    (C5Po : PySem.W.plainOver K C5 = true)
    (C5Sa : PySem.W.findIn K (.ref C5) "__setattr__" = some (some (.builtin "object.__setattr__")))
    (C4Ha : PySem.W.findIn K (.ref C4) "__class__" = some (some (.builtin "object.__class__")))
    (obG : PySem.W.specialIn K (.builtin "object.__class__") "__get__" = some (some (.builtin "getset_descriptor.__get__")))
    (obT : PySem.W.takesIn K (.builtin "object.__class__") = some true)
    (C4Hm : PySem.W.mroIn K C4 (.type "object") = some true)
    (C2Ha : PySem.W.findIn K (.ref C2) "__class__" = some (some (.builtin "object.__class__")))
    (C2Hm : PySem.W.mroIn K C2 (.type "object") = some true)
    (C0Ha : PySem.W.findIn K (.ref C0) "__class__" = some (some (.builtin "object.__class__")))
    (C0Hm : PySem.W.mroIn K C0 (.type "object") = some true)
    (C1Ha : PySem.W.findIn K (.ref C1) "__class__" = some (some (.builtin "object.__class__")))
    (C1Hm : PySem.W.mroIn K C1 (.type "object") = some true)
    (C5Ha : PySem.W.findIn K (.ref C5) "__class__" = some (some (.builtin "object.__class__")))
    (C5Hm : PySem.W.mroIn K C5 (.type "object") = some true)
    (gC3 : PySem.W.nsIn K mainGlobals "Book" = some (some (.ref C3)))
    (gC4 : PySem.W.nsIn K mainGlobals "Lifted" = some (some (.ref C4)))
    (gC2 : PySem.W.nsIn K mainGlobals "Marks" = some (some (.ref C2)))
    (gC0 : PySem.W.nsIn K mainGlobals "Order" = some (some (.ref C0)))
    (gC1 : PySem.W.nsIn K mainGlobals "Saying" = some (some (.ref C1)))
    (gC5 : PySem.W.nsIn K mainGlobals "Stuck" = some (some (.ref C5)))
    (icC4 : PySem.W.isClsIn K C4 = true)
    (tyC4 : PySem.W.typeIn K (.ref C4) = some (.type "type"))
    (ne_C5_C4 : (C5 == C4) = false)
    (su_C5_C4 : PySem.W.subIn K (.ref C5) (.ref C4) = some false)
    (C3nmarks : PySem.W.findIn K (.ref C3) "marks" = some none)
    (C3nsayings : PySem.W.findIn K (.ref C3) "sayings" = some none)
    (C4nheights : PySem.W.findIn K (.ref C4) "heights" = some none)
    (C4norder : PySem.W.findIn K (.ref C4) "order" = some none)
    (C4nreasons : PySem.W.findIn K (.ref C4) "reasons" = some none)
    (C2nall_days : PySem.W.findIn K (.ref C2) "all_days" = some none)
    (C2ncount : PySem.W.findIn K (.ref C2) "count" = some none)
    (C2ndays : PySem.W.findIn K (.ref C2) "days" = some none)
    (C2nnames : PySem.W.findIn K (.ref C2) "names" = some none)
    (C0nlayers : PySem.W.findIn K (.ref C0) "layers" = some none)
    (C1nbroken : PySem.W.findIn K (.ref C1) "broken" = some none)
    (C1nconfirm : PySem.W.findIn K (.ref C1) "confirm" = some none)
    (C1nhigh : PySem.W.findIn K (.ref C1) "high" = some none)
    (C1nlow : PySem.W.findIn K (.ref C1) "low" = some none)
    (C1nstep : PySem.W.findIn K (.ref C1) "step" = some none)
    (C1nthen : PySem.W.findIn K (.ref C1) "then" = some none)
    (C1nusual : PySem.W.findIn K (.ref C1) "usual" = some none)
    (C1nwhere : PySem.W.findIn K (.ref C1) "where" = some none)
    (C5ndays : PySem.W.findIn K (.ref C5) "days" = some none)
    (C5nheights : PySem.W.findIn K (.ref C5) "heights" = some none)
    (C5nreasons : PySem.W.findIn K (.ref C5) "reasons" = some none)
    (C0Sf : PySem.W.selfFirst K C0 = true)
    (xp9 : PySem.W.findIn K (.ref C0) "__and__" = some (some (.ref fp9)))
    (xp29 : PySem.W.findIn K (.ref C0) "__call__" = some (some (.ref fp29)))
    (xp10 : PySem.W.findIn K (.ref C0) "__eq__" = some (some (.ref fp10)))
    (xfp9 : PySem.W.isFn K (.ref fp9) = true)
    (xfp29 : PySem.W.isFn K (.ref fp29) = true)
    (xfp10 : PySem.W.isFn K (.ref fp10) = true)
    (xnp29 : PySem.W.fnIn K fp29 = true)
    (z_abs : PySem.W.nsIn K mainGlobals "abs" = some none)
    (z_all : PySem.W.nsIn K mainGlobals "all" = some none)
    (z_bool : PySem.W.nsIn K mainGlobals "bool" = some none)
    (z_enumerate : PySem.W.nsIn K mainGlobals "enumerate" = some none)
    (z_int : PySem.W.nsIn K mainGlobals "int" = some none)
    (z_isinstance : PySem.W.nsIn K mainGlobals "isinstance" = some none)
    (z_len : PySem.W.nsIn K mainGlobals "len" = some none)
    (z_list : PySem.W.nsIn K mainGlobals "list" = some none)
    (z_min : PySem.W.nsIn K mainGlobals "min" = some none)
    (z_range : PySem.W.nsIn K mainGlobals "range" = some none)
    (z_set : PySem.W.nsIn K mainGlobals "set" = some none)
    (z_sorted : PySem.W.nsIn K mainGlobals "sorted" = some none)
    (z_str : PySem.W.nsIn K mainGlobals "str" = some none)
    (z_sum : PySem.W.nsIn K mainGlobals "sum" = some none)
    (z_tuple : PySem.W.nsIn K mainGlobals "tuple" = some none)
    (z_zip : PySem.W.nsIn K mainGlobals "zip" = some none)
    (g_HIGHEST_LAYER : PySem.W.nsIn K mainGlobals "HIGHEST_LAYER" = some (some (.int 1000000000000000000000000000000 t_HIGHEST_LAYER)))
    (g_DAY_COUNTS : PySem.W.nsIn K mainGlobals "DAY_COUNTS" = some (some (.ref a_DAY_COUNTS)))
    (q_DAY_COUNTS : K.lookup a_DAY_COUNTS = some ⟨.type "tuple", td_DAY_COUNTS, .seq #[.int 2 t0_DAY_COUNTS, .int 4 t1_DAY_COUNTS, .int 8 t2_DAY_COUNTS, .int 16 t3_DAY_COUNTS] n_DAY_COUNTS, sl_DAY_COUNTS⟩)
    (g_KEPT_WORDS : PySem.W.nsIn K mainGlobals "KEPT_WORDS" = some (some (.ref a_KEPT_WORDS)))
    (q_KEPT_WORDS : K.lookup a_KEPT_WORDS = some ⟨.type "tuple", td_KEPT_WORDS, .seq #[.str "and" t0_KEPT_WORDS, .str "any" t1_KEPT_WORDS, .str "marks" t2_KEPT_WORDS, .str "need" t3_KEPT_WORDS, .str "never" t4_KEPT_WORDS, .str "not" t5_KEPT_WORDS, .str "or" t6_KEPT_WORDS, .str "usually" t7_KEPT_WORDS, .str "where" t8_KEPT_WORDS] n_KEPT_WORDS, sl_KEPT_WORDS⟩)
    (g_MOST_MARKS : PySem.W.nsIn K mainGlobals "MOST_MARKS" = some (some (.int 4 t_MOST_MARKS)))
    (g_LONGEST_NAME : PySem.W.nsIn K mainGlobals "LONGEST_NAME" = some (some (.int 8 t_LONGEST_NAME)))
    (g_HIGHEST_DAY_SET : PySem.W.nsIn K mainGlobals "HIGHEST_DAY_SET" = some (some (.int 65535 t_HIGHEST_DAY_SET)))
    (g_MOST_SAYINGS : PySem.W.nsIn K mainGlobals "MOST_SAYINGS" = some (some (.int 12 t_MOST_SAYINGS)))
    (gE102 : PySem.W.nsIn K mainGlobals "BadMarks" = some (some (.ref E102)))
    (exE102 : K.lookup E102 = some (excClassObj nmE102 qE102 E102 NE102 bsE102 [.ref BE102_0, .type "ValueError", .type "Exception", .type "BaseException", .type "object"] true snE102 subE102 abE102 colE102 ddE102 m0E102 m1E102 m2E102 m3E102 m5E102 "ValueError.__new__"))
    (E102es : PySem.W.findIn K (.ref E102) "__setattr__" = some (some (.builtin "object.__setattr__")))
    (E102ei : PySem.W.findIn K (.ref E102) "__init__" = some (some (.ref fp50)))
    (E102et : PySem.W.typeIn K (.ref fp50) = some (.type "function"))
    (E102ek : PySem.W.keepIn K (.ref E102) = true)
    (E102ee : PySem.W.subIn K (.ref E102) (.type "BaseException") = some true)
    (icE102 : PySem.W.isClsIn K E102 = true)
    (tyE102 : PySem.W.typeIn K (.ref E102) = some (.type "type"))
    (su_E102_E102 : PySem.W.subIn K (.ref E102) (.ref E102) = some true)
    (E102ga : PySem.W.findIn K (.ref E102) "__getattribute__" = some (some (.builtin "BaseException.__getattribute__")))
    (E102gg : PySem.W.findIn K (.ref E102) "__getattr__" = some none)
    (E102hd : PySem.W.hasDictIn K E102 = true)
    (E102nwhat : PySem.W.findIn K (.ref E102) "what" = some none)
    (E102nindex : PySem.W.findIn K (.ref E102) "index" = some none)
    (gE107 : PySem.W.nsIn K mainGlobals "BadSaying" = some (some (.ref E107)))
    (exE107 : K.lookup E107 = some (excClassObj nmE107 qE107 E107 NE107 bsE107 [.ref BE107_0, .type "ValueError", .type "Exception", .type "BaseException", .type "object"] true snE107 subE107 abE107 colE107 ddE107 m0E107 m1E107 m2E107 m3E107 m5E107 "ValueError.__new__"))
    (E107es : PySem.W.findIn K (.ref E107) "__setattr__" = some (some (.builtin "object.__setattr__")))
    (E107ei : PySem.W.findIn K (.ref E107) "__init__" = some (some (.ref fp51)))
    (E107et : PySem.W.typeIn K (.ref fp51) = some (.type "function"))
    (E107ek : PySem.W.keepIn K (.ref E107) = true)
    (E107ee : PySem.W.subIn K (.ref E107) (.type "BaseException") = some true)
    (icE107 : PySem.W.isClsIn K E107 = true)
    (tyE107 : PySem.W.typeIn K (.ref E107) = some (.type "type"))
    (su_E107_E107 : PySem.W.subIn K (.ref E107) (.ref E107) = some true)
    (E107ga : PySem.W.findIn K (.ref E107) "__getattribute__" = some (some (.builtin "BaseException.__getattribute__")))
    (E107gg : PySem.W.findIn K (.ref E107) "__getattr__" = some none)
    (E107hd : PySem.W.hasDictIn K E107 = true)
    (E107nwhat : PySem.W.findIn K (.ref E107) "what" = some none)
    (gE109 : PySem.W.nsIn K mainGlobals "BadBook" = some (some (.ref E109)))
    (exE109 : K.lookup E109 = some (excClassObj nmE109 qE109 E109 NE109 bsE109 [.ref BE109_0, .type "ValueError", .type "Exception", .type "BaseException", .type "object"] true snE109 subE109 abE109 colE109 ddE109 m0E109 m1E109 m2E109 m3E109 m5E109 "ValueError.__new__"))
    (E109es : PySem.W.findIn K (.ref E109) "__setattr__" = some (some (.builtin "object.__setattr__")))
    (E109ei : PySem.W.findIn K (.ref E109) "__init__" = some (some (.ref fp52)))
    (E109et : PySem.W.typeIn K (.ref fp52) = some (.type "function"))
    (E109ek : PySem.W.keepIn K (.ref E109) = true)
    (E109ee : PySem.W.subIn K (.ref E109) (.type "BaseException") = some true)
    (icE109 : PySem.W.isClsIn K E109 = true)
    (tyE109 : PySem.W.typeIn K (.ref E109) = some (.type "type"))
    (su_E109_E109 : PySem.W.subIn K (.ref E109) (.ref E109) = some true)
    (E109ga : PySem.W.findIn K (.ref E109) "__getattribute__" = some (some (.builtin "BaseException.__getattribute__")))
    (E109gg : PySem.W.findIn K (.ref E109) "__getattr__" = some none)
    (E109hd : PySem.W.hasDictIn K E109 = true)
    (E109nwhat : PySem.W.findIn K (.ref E109) "what" = some none)
    (E109nnumber : PySem.W.findIn K (.ref E109) "number" = some none)
    (gE112 : PySem.W.nsIn K mainGlobals "OtherDays" = some (some (.ref E112)))
    (exE112 : K.lookup E112 = some (excClassObj nmE112 qE112 E112 NE112 bsE112 [.ref BE112_0, .type "ValueError", .type "Exception", .type "BaseException", .type "object"] true snE112 subE112 abE112 colE112 ddE112 m0E112 m1E112 m2E112 m3E112 m5E112 "ValueError.__new__"))
    (E112es : PySem.W.findIn K (.ref E112) "__setattr__" = some (some (.builtin "object.__setattr__")))
    (E112ei : PySem.W.findIn K (.ref E112) "__init__" = some (some (.ref fp53)))
    (E112et : PySem.W.typeIn K (.ref fp53) = some (.type "function"))
    (E112ek : PySem.W.keepIn K (.ref E112) = true)
    (E112ee : PySem.W.subIn K (.ref E112) (.type "BaseException") = some true)
    (icE112 : PySem.W.isClsIn K E112 = true)
    (tyE112 : PySem.W.typeIn K (.ref E112) = some (.type "type"))
    (su_E112_E112 : PySem.W.subIn K (.ref E112) (.ref E112) = some true)
    (E112ga : PySem.W.findIn K (.ref E112) "__getattribute__" = some (some (.builtin "BaseException.__getattribute__")))
    (E112gg : PySem.W.findIn K (.ref E112) "__getattr__" = some none)
    (E112hd : PySem.W.hasDictIn K E112 = true)
    (gE115 : PySem.W.nsIn K mainGlobals "BadOrder" = some (some (.ref E115)))
    (exE115 : K.lookup E115 = some (excClassObj nmE115 qE115 E115 NE115 bsE115 [.ref BE115_0, .type "ValueError", .type "Exception", .type "BaseException", .type "object"] true snE115 subE115 abE115 colE115 ddE115 m0E115 m1E115 m2E115 m3E115 m5E115 "ValueError.__new__"))
    (E115es : PySem.W.findIn K (.ref E115) "__setattr__" = some (some (.builtin "object.__setattr__")))
    (E115ei : PySem.W.findIn K (.ref E115) "__init__" = some (some (.ref fp54)))
    (E115et : PySem.W.typeIn K (.ref fp54) = some (.type "function"))
    (E115ek : PySem.W.keepIn K (.ref E115) = true)
    (E115ee : PySem.W.subIn K (.ref E115) (.type "BaseException") = some true)
    (icE115 : PySem.W.isClsIn K E115 = true)
    (tyE115 : PySem.W.typeIn K (.ref E115) = some (.type "type"))
    (su_E115_E115 : PySem.W.subIn K (.ref E115) (.ref E115) = some true)
    (E115ga : PySem.W.findIn K (.ref E115) "__getattribute__" = some (some (.builtin "BaseException.__getattribute__")))
    (E115gg : PySem.W.findIn K (.ref E115) "__getattr__" = some none)
    (E115hd : PySem.W.hasDictIn K E115 = true)
    (E115nwhat : PySem.W.findIn K (.ref E115) "what" = some none) :
    ∃ fd : FuncData, (∀ (s : Shared) (v : Value), BindsTo s fd ⟨[v], []⟩ [("_law_script", v)]) ∧ ∀ base : Heap, K.In base → base.Ns mainGlobals mg → FnOk P w K mg base CX0 15 fa fd ["_law_script"] (sp_law K) := by
  have e := hfa.symm.trans (PySem.W.mg_of X G ap49)
  cases e
  let Z : Fa K mg := {
    cls := fun n => match n with | 0 => C0 | 1 => C1 | 2 => C2 | 3 => C3 | 4 => C4 | 5 => C5 | 102 => E102 | 107 => E107 | 109 => E109 | 112 => E112 | 115 => E115 | _ => fa
    f_l_bag := _
    fd_l_bag := _
    F_l_bag := (fun_of (st := s_l_bag) lp0 cp0 kp0)
    D_l_bag := ⟨PySem.W.mg_of X G ap0, kp0, (Fun.binds (fun_of (st := s_l_bag) lp0 cp0 kp0) (ps := ["_law_script", "_law_at"]) fun _ _ _ _ _ _ us hl => match us, hl with | [_, _], _ => rfl)⟩
    f_l_take := _
    fd_l_take := _
    F_l_take := (fun_of (st := s_l_take) lp1 cp1 kp1)
    D_l_take := ⟨PySem.W.mg_of X G ap1, kp1, (Fun.binds (fun_of (st := s_l_take) lp1 cp1 kp1) (ps := ["_law_bag_here", "_law_many"]) fun _ _ _ _ _ _ us hl => match us, hl with | [_, _], _ => rfl)⟩
    f_l_of := _
    fd_l_of := _
    F_l_of := (fun_of (st := s_l_of) lp2 cp2 kp2)
    D_l_of := ⟨PySem.W.mg_of X G ap2, kp2, (Fun.binds (fun_of (st := s_l_of) lp2 cp2 kp2) (ps := ["_law_bag_here", "_law_some"]) fun _ _ _ _ _ _ us hl => match us, hl with | [_, _], _ => rfl)⟩
    f_l_layers := _
    fd_l_layers := _
    F_l_layers := (fun_of (st := s_l_layers) lp3 cp3 kp3)
    D_l_layers := ⟨PySem.W.mg_of X G ap3, kp3, (Fun.binds (fun_of (st := s_l_layers) lp3 cp3 kp3) (ps := ["_law_bag_here", "_law_days"]) fun _ _ _ _ _ _ us hl => match us, hl with | [_, _], _ => rfl)⟩
    f_is_number := _
    fd_is_number := _
    F_is_number := (fun_of (st := s_is_number) lp4 cp4 kp4)
    D_is_number := ⟨PySem.W.mg_of X G ap4, kp4, (Fun.binds (fun_of (st := s_is_number) lp4 cp4 kp4) (ps := ["thing"]) fun _ _ _ _ _ _ us hl => match us, hl with | [_], _ => rfl)⟩
    f_is_whole := _
    fd_is_whole := _
    F_is_whole := (fun_of (st := s_is_whole) lp5 cp5 kp5)
    D_is_whole := ⟨PySem.W.mg_of X G ap5, kp5, (Fun.binds (fun_of (st := s_is_whole) lp5 cp5 kp5) (ps := ["thing", "low", "high"]) fun _ _ _ _ _ _ us hl => match us, hl with | [_, _, _], _ => rfl)⟩
    f_check_layers := _
    fd_check_layers := _
    F_check_layers := (fun_of (st := s_check_layers) lp6 cp6 kp6)
    D_check_layers := ⟨PySem.W.mg_of X G ap6, kp6, (Fun.binds (fun_of (st := s_check_layers) lp6 cp6 kp6) (ps := ["layers"]) fun _ _ _ _ _ _ us hl => match us, hl with | [_], _ => rfl)⟩
    f_Order__init := _
    fd_Order__init := _
    F_Order__init := (fun_of (st := s_Order__init) lp7 cp7 kp7)
    b_Order__init := (Fun.binds (fun_of (st := s_Order__init) lp7 cp7 kp7) (ps := ["self", "layers"]) fun _ _ _ _ _ _ us hl => match us, hl with | [_, _], _ => rfl)
    f_Order_check_length := _
    fd_Order_check_length := _
    F_Order_check_length := (fun_of (st := s_Order_check_length) lp8 cp8 kp8)
    b_Order_check_length := (Fun.binds (fun_of (st := s_Order_check_length) lp8 cp8 kp8) (ps := ["self", "other"]) fun _ _ _ _ _ _ us hl => match us, hl with | [_, _], _ => rfl)
    f_Order__and := _
    fd_Order__and := _
    F_Order__and := (fun_of (st := s_Order__and) lp9 cp9 kp9)
    b_Order__and := (Fun.binds (fun_of (st := s_Order__and) lp9 cp9 kp9) (ps := ["self", "other"]) fun _ _ _ _ _ _ us hl => match us, hl with | [_, _], _ => rfl)
    f_Order__eq := _
    fd_Order__eq := _
    F_Order__eq := (fun_of (st := s_Order__eq) lp10 cp10 kp10)
    b_Order__eq := (Fun.binds (fun_of (st := s_Order__eq) lp10 cp10 kp10) (ps := ["self", "other"]) fun _ _ _ _ _ _ us hl => match us, hl with | [_, _], _ => rfl)
    f_l_beneath := _
    fd_l_beneath := _
    F_l_beneath := (fun_of (st := s_l_beneath) lp11 cp11 kp11)
    D_l_beneath := ⟨PySem.W.mg_of X G ap11, kp11, (Fun.binds (fun_of (st := s_l_beneath) lp11 cp11 kp11) (ps := ["_law_low", "_law_high"]) fun _ _ _ _ _ _ us hl => match us, hl with | [_, _], _ => rfl)⟩
    f_Order_beneath := _
    fd_Order_beneath := _
    F_Order_beneath := (fun_of (st := s_Order_beneath) lp12 cp12 kp12)
    b_Order_beneath := (Fun.binds (fun_of (st := s_Order_beneath) lp12 cp12 kp12) (ps := ["self", "other"]) fun _ _ _ _ _ _ us hl => match us, hl with | [_, _], _ => rfl)
    f_l_flag := _
    fd_l_flag := _
    F_l_flag := (fun_of (st := s_l_flag) lp13 cp13 kp13)
    D_l_flag := ⟨PySem.W.mg_of X G ap13, kp13, (Fun.binds (fun_of (st := s_l_flag) lp13 cp13 kp13) (ps := ["_law_thing", "_law_due"]) fun _ _ _ _ _ _ us hl => match us, hl with | [_, _], _ => rfl)⟩
    f_l_below_both := _
    fd_l_below_both := _
    F_l_below_both := (fun_of (st := s_l_below_both) lp14 cp14 kp14)
    D_l_below_both := ⟨PySem.W.mg_of X G ap14, kp14, (Fun.binds (fun_of (st := s_l_below_both) lp14 cp14 kp14) (ps := ["_law_both", "_law_one", "_law_two", "_law_three"]) fun _ _ _ _ _ _ us hl => match us, hl with | [_, _, _, _], _ => rfl)⟩
    f_l_toward := _
    fd_l_toward := _
    F_l_toward := (fun_of (st := s_l_toward) lp15 cp15 kp15)
    D_l_toward := ⟨PySem.W.mg_of X G ap15, kp15, (Fun.binds (fun_of (st := s_l_toward) lp15 cp15 kp15) (ps := ["_law_bag_here", "_law_layers_here"]) fun _ _ _ _ _ _ us hl => match us, hl with | [_, _], _ => rfl)⟩
    f_l_any := _
    fd_l_any := _
    F_l_any := (fun_of (st := s_l_any) lp16 cp16 kp16)
    D_l_any := ⟨PySem.W.mg_of X G ap16, kp16, (Fun.binds (fun_of (st := s_l_any) lp16 cp16 kp16) (ps := ["_law_bag_here", "_law_days"]) fun _ _ _ _ _ _ us hl => match us, hl with | [_, _], _ => rfl)⟩
    f_l_drawn := _
    fd_l_drawn := _
    F_l_drawn := (fun_of (st := s_l_drawn) lp17 cp17 kp17)
    D_l_drawn := ⟨PySem.W.mg_of X G ap17, kp17, (Fun.binds (fun_of (st := s_l_drawn) lp17 cp17 kp17) (ps := ["_law_bag_here", "_law_one", "_law_two", "_law_many"]) fun _ _ _ _ _ _ us hl => match us, hl with | [_, _, _, _], _ => rfl)⟩
    f_l_sides := _
    fd_l_sides := _
    F_l_sides := (fun_of (st := s_l_sides) lp18 cp18 kp18)
    D_l_sides := ⟨PySem.W.mg_of X G ap18, kp18, (Fun.binds (fun_of (st := s_l_sides) lp18 cp18 kp18) (ps := ["_law_saying"]) fun _ _ _ _ _ _ us hl => match us, hl with | [_], _ => rfl)⟩
    f_l_keeps := _
    fd_l_keeps := _
    F_l_keeps := (fun_of (st := s_l_keeps) lp19 cp19 kp19)
    D_l_keeps := ⟨PySem.W.mg_of X G ap19, kp19, (Fun.binds (fun_of (st := s_l_keeps) lp19 cp19 kp19) (ps := ["_law_layers_here", "_law_saying"]) fun _ _ _ _ _ _ us hl => match us, hl with | [_, _], _ => rfl)⟩
    f_is_day_set := _
    fd_is_day_set := _
    F_is_day_set := (fun_of (st := s_is_day_set) lp20 cp20 kp20)
    D_is_day_set := ⟨PySem.W.mg_of X G ap20, kp20, (Fun.binds (fun_of (st := s_is_day_set) lp20 cp20 kp20) (ps := ["thing"]) fun _ _ _ _ _ _ us hl => match us, hl with | [_], _ => rfl)⟩
    f_Saying__init := _
    fd_Saying__init := _
    F_Saying__init := (fund_of (st := s_Saying__init) (dv := .bl true) rfl lp21 cp21 kp21 dp21)
    b_Saying__init := (binds_drop (dv := .bl true) (FunD.binds1 (fund_of (st := s_Saying__init) (dv := .bl true) rfl lp21 cp21 kp21 dp21) (ps := ["self", "where", "then", "usual"]) 4 1 (fun z => nomatch z) rfl fun T kV doc pm an cdv ct us its h1 h2 => match us, its, h1, h2 with | [_, _, _, _], [_], _, _ => ⟨_, rfl, rfl⟩))
    f_l_said := _
    fd_l_said := _
    F_l_said := (fun_of (st := s_l_said) lp22 cp22 kp22)
    D_l_said := ⟨PySem.W.mg_of X G ap22, kp22, (Fun.binds (fun_of (st := s_l_said) lp22 cp22 kp22) (ps := ["_law_sayings"]) fun _ _ _ _ _ _ us hl => match us, hl with | [_], _ => rfl)⟩
    f_Order_check_days := _
    fd_Order_check_days := _
    F_Order_check_days := (fun_of (st := s_Order_check_days) lp23 cp23 kp23)
    b_Order_check_days := (Fun.binds (fun_of (st := s_Order_check_days) lp23 cp23 kp23) (ps := ["self", "days"]) fun _ _ _ _ _ _ us hl => match us, hl with | [_, _], _ => rfl)
    f_days_in := _
    fd_days_in := _
    F_days_in := (fun_of (st := s_days_in) lp24 cp24 kp24)
    D_days_in := ⟨PySem.W.mg_of X G ap24, kp24, (Fun.binds (fun_of (st := s_days_in) lp24 cp24 kp24) (ps := ["day_set"]) fun _ _ _ _ _ _ us hl => match us, hl with | [_], _ => rfl)⟩
    f_Order_least := _
    fd_Order_least := _
    F_Order_least := (fun_of (st := s_Order_least) lp25 cp25 kp25)
    b_Order_least := (Fun.binds (fun_of (st := s_Order_least) lp25 cp25 kp25) (ps := ["self", "days"]) fun _ _ _ _ _ _ us hl => match us, hl with | [_, _], _ => rfl)
    f_Order_keeps := _
    fd_Order_keeps := _
    F_Order_keeps := (fun_of (st := s_Order_keeps) lp26 cp26 kp26)
    b_Order_keeps := (Fun.binds (fun_of (st := s_Order_keeps) lp26 cp26 kp26) (ps := ["self", "saying"]) fun _ _ _ _ _ _ us hl => match us, hl with | [_, _], _ => rfl)
    f_Order_first_not_kept := _
    fd_Order_first_not_kept := _
    F_Order_first_not_kept := (fun_of (st := s_Order_first_not_kept) lp27 cp27 kp27)
    b_Order_first_not_kept := (Fun.binds (fun_of (st := s_Order_first_not_kept) lp27 cp27 kp27) (ps := ["self", "sayings"]) fun _ _ _ _ _ _ us hl => match us, hl with | [_, _], _ => rfl)
    f_Order_keeps_all := _
    fd_Order_keeps_all := _
    F_Order_keeps_all := (fun_of (st := s_Order_keeps_all) lp28 cp28 kp28)
    b_Order_keeps_all := (Fun.binds (fun_of (st := s_Order_keeps_all) lp28 cp28 kp28) (ps := ["self", "sayings"]) fun _ _ _ _ _ _ us hl => match us, hl with | [_, _], _ => rfl)
    f_Order__call := _
    fd_Order__call := _
    F_Order__call := (fun_of (st := s_Order__call) lp29 cp29 kp29)
    b_Order__call := (Fun.binds (fun_of (st := s_Order__call) lp29 cp29 kp29) (ps := ["self", "sayings"]) fun _ _ _ _ _ _ us hl => match us, hl with | [_, _], _ => rfl)
    f_Order_closed := _
    fd_Order_closed := _
    F_Order_closed := (fun_of (st := s_Order_closed) lp30 cp30 kp30)
    b_Order_closed := (Fun.binds (fun_of (st := s_Order_closed) lp30 cp30 kp30) (ps := ["self"]) fun _ _ _ _ _ _ us hl => match us, hl with | [_], _ => rfl)
    f_l_closed := _
    fd_l_closed := _
    F_l_closed := (fun_of (st := s_l_closed) lp31 cp31 kp31)
    D_l_closed := ⟨PySem.W.mg_of X G ap31, kp31, (Fun.binds (fun_of (st := s_l_closed) lp31 cp31 kp31) (ps := ["_law_order", "_law_layers_here", "_law_sayings"]) fun _ _ _ _ _ _ us hl => match us, hl with | [_, _, _], _ => rfl)⟩
    f_name_fault := _
    fd_name_fault := _
    F_name_fault := (fun_of (st := s_name_fault) lp32 cp32 kp32)
    D_name_fault := ⟨PySem.W.mg_of X G ap32, kp32, (Fun.binds (fun_of (st := s_name_fault) lp32 cp32 kp32) (ps := ["name"]) fun _ _ _ _ _ _ us hl => match us, hl with | [_], _ => rfl)⟩
    f_check_names := _
    fd_check_names := _
    F_check_names := (fun_of (st := s_check_names) lp33 cp33 kp33)
    D_check_names := ⟨PySem.W.mg_of X G ap33, kp33, (Fun.binds (fun_of (st := s_check_names) lp33 cp33 kp33) (ps := ["names"]) fun _ _ _ _ _ _ us hl => match us, hl with | [_], _ => rfl)⟩
    f_Marks__init := _
    fd_Marks__init := _
    F_Marks__init := (fun_of (st := s_Marks__init) lp34 cp34 kp34)
    b_Marks__init := (Fun.binds (fun_of (st := s_Marks__init) lp34 cp34 kp34) (ps := ["self", "names"]) fun _ _ _ _ _ _ us hl => match us, hl with | [_, _], _ => rfl)
    f_l_marks := _
    fd_l_marks := _
    F_l_marks := (fun_of (st := s_l_marks) lp35 cp35 kp35)
    D_l_marks := ⟨PySem.W.mg_of X G ap35, kp35, (Fun.binds (fun_of (st := s_l_marks) lp35 cp35 kp35) (ps := ["_law_days"]) fun _ _ _ _ _ _ us hl => match us, hl with | [_], _ => rfl)⟩
    f_within := _
    fd_within := _
    F_within := (fun_of (st := s_within) lp36 cp36 kp36)
    D_within := ⟨PySem.W.mg_of X G ap36, kp36, (Fun.binds (fun_of (st := s_within) lp36 cp36 kp36) (ps := ["one", "other"]) fun _ _ _ _ _ _ us hl => match us, hl with | [_, _], _ => rfl)⟩
    f_has_days := _
    fd_has_days := _
    F_has_days := (fun_of (st := s_has_days) lp37 cp37 kp37)
    D_has_days := ⟨PySem.W.mg_of X G ap37, kp37, (Fun.binds (fun_of (st := s_has_days) lp37 cp37 kp37) (ps := ["marks", "saying"]) fun _ _ _ _ _ _ us hl => match us, hl with | [_, _], _ => rfl)⟩
    f_check_book := _
    fd_check_book := _
    F_check_book := (fun_of (st := s_check_book) lp38 cp38 kp38)
    D_check_book := ⟨PySem.W.mg_of X G ap38, kp38, (Fun.binds (fun_of (st := s_check_book) lp38 cp38 kp38) (ps := ["marks", "sayings"]) fun _ _ _ _ _ _ us hl => match us, hl with | [_, _], _ => rfl)⟩
    f_Book__init := _
    fd_Book__init := _
    F_Book__init := (fun_of (st := s_Book__init) lp39 cp39 kp39)
    b_Book__init := (Fun.binds (fun_of (st := s_Book__init) lp39 cp39 kp39) (ps := ["self", "marks", "sayings"]) fun _ _ _ _ _ _ us hl => match us, hl with | [_, _, _], _ => rfl)
    f_check_fitting := _
    fd_check_fitting := _
    F_check_fitting := (fun_of (st := s_check_fitting) lp40 cp40 kp40)
    D_check_fitting := ⟨PySem.W.mg_of X G ap40, kp40, (Fun.binds (fun_of (st := s_check_fitting) lp40 cp40 kp40) (ps := ["days", "sayings"]) fun _ _ _ _ _ _ us hl => match us, hl with | [_, _], _ => rfl)⟩
    f_check_days := _
    fd_check_days := _
    F_check_days := (fun_of (st := s_check_days) lp41 cp41 kp41)
    D_check_days := ⟨PySem.W.mg_of X G ap41, kp41, (Fun.binds (fun_of (st := s_check_days) lp41 cp41 kp41) (ps := ["marks", "sayings"]) fun _ _ _ _ _ _ us hl => match us, hl with | [_, _], _ => rfl)⟩
    f_set_of := _
    fd_set_of := _
    F_set_of := (fun_of (st := s_set_of) lp42 cp42 kp42)
    D_set_of := ⟨PySem.W.mg_of X G ap42, kp42, (Fun.binds (fun_of (st := s_set_of) lp42 cp42 kp42) (ps := ["days"]) fun _ _ _ _ _ _ us hl => match us, hl with | [_], _ => rfl)⟩
    f_stay := _
    fd_stay := _
    F_stay := (fun_of (st := s_stay) lp43 cp43 kp43)
    D_stay := ⟨PySem.W.mg_of X G ap43, kp43, (Fun.binds (fun_of (st := s_stay) lp43 cp43 kp43) (ps := ["sayings", "room", "placed", "reasons", "heights"]) fun _ _ _ _ _ _ us hl => match us, hl with | [_, _, _, _, _], _ => rfl)⟩
    f_layer_behind := _
    fd_layer_behind := _
    F_layer_behind := (fun_of (st := s_layer_behind) lp44 cp44 kp44)
    D_layer_behind := ⟨PySem.W.mg_of X G ap44, kp44, (Fun.binds (fun_of (st := s_layer_behind) lp44 cp44 kp44) (ps := ["layer", "start", "grown"]) fun _ _ _ _ _ _ us hl => match us, hl with | [_, _, _], _ => rfl)⟩
    f_climb := _
    fd_climb := _
    F_climb := (fun_of (st := s_climb) lp45 cp45 kp45)
    D_climb := ⟨PySem.W.mg_of X G ap45, kp45, (Fun.binds (fun_of (st := s_climb) lp45 cp45 kp45) (ps := ["sayings", "start"]) fun _ _ _ _ _ _ us hl => match us, hl with | [_, _], _ => rfl)⟩
    f_Lifted__init := _
    fd_Lifted__init := _
    F_Lifted__init := (fun_of (st := s_Lifted__init) lp46 cp46 kp46)
    b_Lifted__init := (Fun.binds (fun_of (st := s_Lifted__init) lp46 cp46 kp46) (ps := ["self", "order", "reasons", "heights"]) fun _ _ _ _ _ _ us hl => match us, hl with | [_, _, _, _], _ => rfl)
    f_Stuck__init := _
    fd_Stuck__init := _
    F_Stuck__init := (fun_of (st := s_Stuck__init) lp47 cp47 kp47)
    b_Stuck__init := (Fun.binds (fun_of (st := s_Stuck__init) lp47 cp47 kp47) (ps := ["self", "days", "reasons", "heights"]) fun _ _ _ _ _ _ us hl => match us, hl with | [_, _, _, _], _ => rfl)
    f_lift := _
    fd_lift := _
    F_lift := (fun_of (st := s_lift) lp48 cp48 kp48)
    dg_lift := PySem.W.mg_of X G ap48
    dk_lift := kp48
    f_law := _
    fd_law := _
    F_law := (fun_of (st := s_law) lp49 cp49 kp49)
    D_law := ⟨PySem.W.mg_of X G ap49, kp49, (Fun.binds (fun_of (st := s_law) lp49 cp49 kp49) (ps := ["_law_script"]) fun _ _ _ _ _ _ us hl => match us, hl with | [_], _ => rfl)⟩
    f_BadMarks__init := _
    fd_BadMarks__init := _
    F_BadMarks__init := (fun_of (st := s_BadMarks__init) lp50 cp50 kp50)
    b_BadMarks__init := (Fun.binds (fun_of (st := s_BadMarks__init) lp50 cp50 kp50) (ps := ["self", "what", "index"]) fun _ _ _ _ _ _ us hl => match us, hl with | [_, _, _], _ => rfl)
    f_BadSaying__init := _
    fd_BadSaying__init := _
    F_BadSaying__init := (fun_of (st := s_BadSaying__init) lp51 cp51 kp51)
    b_BadSaying__init := (Fun.binds (fun_of (st := s_BadSaying__init) lp51 cp51 kp51) (ps := ["self", "what"]) fun _ _ _ _ _ _ us hl => match us, hl with | [_, _], _ => rfl)
    f_BadBook__init := _
    fd_BadBook__init := _
    F_BadBook__init := (fun_of (st := s_BadBook__init) lp52 cp52 kp52)
    b_BadBook__init := (Fun.binds (fun_of (st := s_BadBook__init) lp52 cp52 kp52) (ps := ["self", "what", "number"]) fun _ _ _ _ _ _ us hl => match us, hl with | [_, _, _], _ => rfl)
    f_OtherDays__init := _
    fd_OtherDays__init := _
    F_OtherDays__init := (fun_of (st := s_OtherDays__init) lp53 cp53 kp53)
    b_OtherDays__init := (Fun.binds (fun_of (st := s_OtherDays__init) lp53 cp53 kp53) (ps := ["self"]) fun _ _ _ _ _ _ us hl => match us, hl with | [_], _ => rfl)
    f_BadOrder__init := _
    fd_BadOrder__init := _
    F_BadOrder__init := (fun_of (st := s_BadOrder__init) lp54 cp54 kp54)
    b_BadOrder__init := (Fun.binds (fun_of (st := s_BadOrder__init) lp54 cp54 kp54) (ps := ["self", "what"]) fun _ _ _ _ _ _ us hl => match us, hl with | [_, _], _ => rfl)
    M_Book := ⟨C3Mk, C3In, C3If, C3Kp⟩
    M_Lifted := ⟨C4Mk, C4In, C4If, C4Kp⟩
    M_Marks := ⟨C2Mk, C2In, C2If, C2Kp⟩
    M_Order := ⟨C0Mk, C0In, C0If, C0Kp⟩
    M_Order_beneath := ⟨xp12, xfp12, kp12⟩
    M_Order_check_days := ⟨xp23, xfp23, kp23⟩
    M_Order_check_length := ⟨xp8, xfp8, kp8⟩
    M_Order_closed := ⟨xp30, xfp30, kp30⟩
    M_Order_first_not_kept := ⟨xp27, xfp27, kp27⟩
    M_Order_keeps := ⟨xp26, xfp26, kp26⟩
    M_Order_keeps_all := ⟨xp28, xfp28, kp28⟩
    M_Order_least := ⟨xp25, xfp25, kp25⟩
    M_Saying := ⟨C1Mk, C1In, C1If, C1Kp⟩
    M_Stuck := ⟨C5Mk, C5In, C5If, C5Kp⟩
    cl_Book := ⟨C3Pg, C3Hd, C3Po, C3Sa⟩
    cl_Lifted := ⟨C4Pg, C4Hd, C4Po, C4Sa⟩
    cl_Marks := ⟨C2Pg, C2Hd, C2Po, C2Sa⟩
    cl_Order := ⟨C0Pg, C0Hd, C0Po, C0Sa⟩
    cl_Saying := ⟨C1Pg, C1Hd, C1Po, C1Sa⟩
    cl_Stuck := ⟨C5Pg, C5Hd, C5Po, C5Sa⟩
    cty_Lifted := ⟨⟨C4Pg, C4Hd, C4Po, C4Sa⟩, C4Ha, obG, obT, C4Hm⟩
    cty_Marks := ⟨⟨C2Pg, C2Hd, C2Po, C2Sa⟩, C2Ha, obG, obT, C2Hm⟩
    cty_Order := ⟨⟨C0Pg, C0Hd, C0Po, C0Sa⟩, C0Ha, obG, obT, C0Hm⟩
    cty_Saying := ⟨⟨C1Pg, C1Hd, C1Po, C1Sa⟩, C1Ha, obG, obT, C1Hm⟩
    cty_Stuck := ⟨⟨C5Pg, C5Hd, C5Po, C5Sa⟩, C5Ha, obG, obT, C5Hm⟩
    g_Book := PySem.W.mg_of X G gC3
    g_Lifted := PySem.W.mg_of X G gC4
    g_Marks := PySem.W.mg_of X G gC2
    g_Order := PySem.W.mg_of X G gC0
    g_Saying := PySem.W.mg_of X G gC1
    g_Stuck := PySem.W.mg_of X G gC5
    kc_Stuck_Lifted := kit_refF ne_C5_C4 icC4 tyC4 su_C5_C4
    no_Book_marks := C3nmarks
    no_Book_sayings := C3nsayings
    no_Lifted_heights := C4nheights
    no_Lifted_order := C4norder
    no_Lifted_reasons := C4nreasons
    no_Marks_all_days := C2nall_days
    no_Marks_count := C2ncount
    no_Marks_days := C2ndays
    no_Marks_names := C2nnames
    no_Order_layers := C0nlayers
    no_Saying_broken := C1nbroken
    no_Saying_confirm := C1nconfirm
    no_Saying_high := C1nhigh
    no_Saying_low := C1nlow
    no_Saying_step := C1nstep
    no_Saying_then := C1nthen
    no_Saying_usual := C1nusual
    no_Saying_where := C1nwhere
    no_Stuck_days := C5ndays
    no_Stuck_heights := C5nheights
    no_Stuck_reasons := C5nreasons
    sf_Order := C0Sf
    x_Order__and := xp9
    x_Order__call := xp29
    x_Order__eq := xp10
    xf_Order__and := xfp9
    xf_Order__call := xfp29
    xf_Order__eq := xfp10
    xn_Order__call := xnp29
    z_abs := PySem.W.mg_none_of X G z_abs
    z_all := PySem.W.mg_none_of X G z_all
    z_bool := PySem.W.mg_none_of X G z_bool
    z_enumerate := PySem.W.mg_none_of X G z_enumerate
    z_int := PySem.W.mg_none_of X G z_int
    z_isinstance := PySem.W.mg_none_of X G z_isinstance
    z_len := PySem.W.mg_none_of X G z_len
    z_list := PySem.W.mg_none_of X G z_list
    z_min := PySem.W.mg_none_of X G z_min
    z_range := PySem.W.mg_none_of X G z_range
    z_set := PySem.W.mg_none_of X G z_set
    z_sorted := PySem.W.mg_none_of X G z_sorted
    z_str := PySem.W.mg_none_of X G z_str
    z_sum := PySem.W.mg_none_of X G z_sum
    z_tuple := PySem.W.mg_none_of X G z_tuple
    z_zip := PySem.W.mg_none_of X G z_zip
    t_HIGHEST_LAYER := t_HIGHEST_LAYER
    g_HIGHEST_LAYER := PySem.W.mg_of X G g_HIGHEST_LAYER
    a_DAY_COUNTS := a_DAY_COUNTS
    g_DAY_COUNTS := PySem.W.mg_of X G g_DAY_COUNTS
    q_DAY_COUNTS := ktup (its := [.int 2 t0_DAY_COUNTS, .int 4 t1_DAY_COUNTS, .int 8 t2_DAY_COUNTS, .int 16 t3_DAY_COUNTS]) q_DAY_COUNTS (Nat.le_of_ble_eq_true rfl) (.cons ⟨_, rfl⟩ (.cons ⟨_, rfl⟩ (.cons ⟨_, rfl⟩ (.cons ⟨_, rfl⟩ .nil))))
    a_KEPT_WORDS := a_KEPT_WORDS
    g_KEPT_WORDS := PySem.W.mg_of X G g_KEPT_WORDS
    q_KEPT_WORDS := ktup (its := [.str "and" t0_KEPT_WORDS, .str "any" t1_KEPT_WORDS, .str "marks" t2_KEPT_WORDS, .str "need" t3_KEPT_WORDS, .str "never" t4_KEPT_WORDS, .str "not" t5_KEPT_WORDS, .str "or" t6_KEPT_WORDS, .str "usually" t7_KEPT_WORDS, .str "where" t8_KEPT_WORDS]) q_KEPT_WORDS (Nat.le_of_ble_eq_true rfl) (.cons ⟨_, rfl⟩ (.cons ⟨_, rfl⟩ (.cons ⟨_, rfl⟩ (.cons ⟨_, rfl⟩ (.cons ⟨_, rfl⟩ (.cons ⟨_, rfl⟩ (.cons ⟨_, rfl⟩ (.cons ⟨_, rfl⟩ (.cons ⟨_, rfl⟩ .nil)))))))))
    t_MOST_MARKS := t_MOST_MARKS
    g_MOST_MARKS := PySem.W.mg_of X G g_MOST_MARKS
    t_LONGEST_NAME := t_LONGEST_NAME
    g_LONGEST_NAME := PySem.W.mg_of X G g_LONGEST_NAME
    t_HIGHEST_DAY_SET := t_HIGHEST_DAY_SET
    g_HIGHEST_DAY_SET := PySem.W.mg_of X G g_HIGHEST_DAY_SET
    t_MOST_SAYINGS := t_MOST_SAYINGS
    g_MOST_SAYINGS := PySem.W.mg_of X G g_MOST_SAYINGS
    E_BadMarks := ⟨PySem.W.mg_of X G gE102, ⟨⟨_, _, _, _, _, _, _, _, _, _, _, _, _, _, _, exE102, by rfl⟩, E102es, E102ee, tyE102, E102ek⟩, E102ei, E102et, (Fun.binds (fun_of (st := s_BadMarks__init) lp50 cp50 kp50) (ps := ["self", "what", "index"]) fun _ _ _ _ _ _ us hl => match us, hl with | [_, _, _], _ => rfl)⟩
    xf_BadMarks := ⟨E102ga, E102gg, E102ee, E102hd⟩
    xn_BadMarks_what := E102nwhat
    xn_BadMarks_index := E102nindex
    E_BadSaying := ⟨PySem.W.mg_of X G gE107, ⟨⟨_, _, _, _, _, _, _, _, _, _, _, _, _, _, _, exE107, by rfl⟩, E107es, E107ee, tyE107, E107ek⟩, E107ei, E107et, (Fun.binds (fun_of (st := s_BadSaying__init) lp51 cp51 kp51) (ps := ["self", "what"]) fun _ _ _ _ _ _ us hl => match us, hl with | [_, _], _ => rfl), exm_own E107ee icE107 tyE107 su_E107_E107, ⟨E107ga, E107gg, E107ee, E107hd⟩, E107nwhat⟩
    xf_BadSaying := ⟨E107ga, E107gg, E107ee, E107hd⟩
    xn_BadSaying_what := E107nwhat
    E_BadBook := ⟨PySem.W.mg_of X G gE109, ⟨⟨_, _, _, _, _, _, _, _, _, _, _, _, _, _, _, exE109, by rfl⟩, E109es, E109ee, tyE109, E109ek⟩, E109ei, E109et, (Fun.binds (fun_of (st := s_BadBook__init) lp52 cp52 kp52) (ps := ["self", "what", "number"]) fun _ _ _ _ _ _ us hl => match us, hl with | [_, _, _], _ => rfl)⟩
    xf_BadBook := ⟨E109ga, E109gg, E109ee, E109hd⟩
    xn_BadBook_what := E109nwhat
    xn_BadBook_number := E109nnumber
    E_OtherDays := ⟨PySem.W.mg_of X G gE112, ⟨⟨_, _, _, _, _, _, _, _, _, _, _, _, _, _, _, exE112, by rfl⟩, E112es, E112ee, tyE112, E112ek⟩, E112ei, E112et, (Fun.binds (fun_of (st := s_OtherDays__init) lp53 cp53 kp53) (ps := ["self"]) fun _ _ _ _ _ _ us hl => match us, hl with | [_], _ => rfl)⟩
    xf_OtherDays := ⟨E112ga, E112gg, E112ee, E112hd⟩
    E_BadOrder := ⟨PySem.W.mg_of X G gE115, ⟨⟨_, _, _, _, _, _, _, _, _, _, _, _, _, _, _, exE115, by rfl⟩, E115es, E115ee, tyE115, E115ek⟩, E115ei, E115et, (Fun.binds (fun_of (st := s_BadOrder__init) lp54 cp54 kp54) (ps := ["self", "what"]) fun _ _ _ _ _ _ us hl => match us, hl with | [_, _], _ => rfl), exm_own E115ee icE115 tyE115 su_E115_E115, ⟨E115ga, E115gg, E115ee, E115hd⟩, E115nwhat⟩
    xf_BadOrder := ⟨E115ga, E115gg, E115ee, E115hd⟩
    xn_BadOrder_what := E115nwhat }
  refine ⟨PySem.W.fnOf "law" "law" (defArgs s_law) (defBody s_law) (defScope s_law) .none kVp49 dcp49 pmp49 anp49 cdp49 ctp49, fun s v => .of_eq rfl, fun base _ _ => ?_⟩
  exact law_fn (ok_law_Scr (P := P) (w := w) (base := base) Z) law_true_k15
theorem walk {l : PySem.W.OpenLaw} {q : Program} {loose : List Str} {XP : (Str → Option Value) → Heap → Prop} {YP : World → Heap → Prop} {d : DefRec} {K : Params → PySem.W.Frag} (hn : l.most = some 63) (hdf : d.params.defaults = [])
    (hY : ∀ (w : World) (h : Heap), YP w h → (K w.params).In h)
    (F : ∀ (w : World) (mg : Str → Option Value) (fa : Addr) (h : Heap), (K w.params).In h → h.Ns mainGlobals mg → mg d.name = some (.ref fa) →
      ∃ fd : FuncData, (∀ (s : Shared) (u : Value), BindsTo s fd ⟨[u], []⟩ [("_law_script", u)]) ∧ ∀ base : Heap, (K w.params).In base → base.Ns mainGlobals mg → FnOk l.prog w (K w.params) mg base CX0 15 fa fd ["_law_script"] (sp_law (K w.params))) :
    PySem.W.WalkO q loose XP YP l.row.toRowW d [] (fun f vs => PySem.call f vs) :=
  L2.walk_of (n := 63) (k := 15) (x := "_law_script") (CX := fun _ => CX0) (sp := fun w => sp_law (K w.params)) hn (by decide) hdf ⟨rfl, by decide, by decide⟩ hY F (fun _ _ a ns hl _ hS => ⟨a, ns, rfl, hS, hl, fun _ => rfl⟩) fun _ _ _ _ _ z => z
end TW
open PySem PySem.W PyProof.Rows
set_option maxRecDepth 100000 in
set_option maxHeartbeats 0 in
theorem PySem.Challenge.cw_usualdays_k15_whole_lesser_and_closed_or_holds : PySem.Challenge.rw_usualdays_k15_whole_lesser_and_closed_or.Holds := by
  w_on; o_law; k_head; (case hw => w_witness2)
  k_fill
  refine TW.walk (l := PySem.Challenge.rw_usualdays_k15_whole_lesser_and_closed_or) rfl rfl (fun w h Y => PySem.W.kIn_of Y) ?F
  case F =>
    intro w mg fa h KX G hmg
    refine' TW.all_mk KX G hmg ?lp0 ?cp0 ?kp0 ?ap0 ?lp1 ?cp1 ?kp1 ?ap1 ?lp2 ?cp2 ?kp2 ?ap2 ?lp3 ?cp3 ?kp3 ?ap3 ?lp4 ?cp4 ?kp4 ?ap4 ?lp5 ?cp5 ?kp5 ?ap5 ?lp6 ?cp6 ?kp6 ?ap6 ?lp7 ?cp7 ?kp7 ?lp8 ?cp8 ?kp8 ?lp9 ?cp9 ?kp9 ?lp10 ?cp10 ?kp10 ?lp11 ?cp11 ?kp11 ?ap11 ?lp12 ?cp12 ?kp12 ?lp13 ?cp13 ?kp13 ?ap13 ?lp14 ?cp14 ?kp14 ?ap14 ?lp15 ?cp15 ?kp15 ?ap15 ?lp16 ?cp16 ?kp16 ?ap16 ?lp17 ?cp17 ?kp17 ?ap17 ?lp18 ?cp18 ?kp18 ?ap18 ?lp19 ?cp19 ?kp19 ?ap19 ?lp20 ?cp20 ?kp20 ?ap20 ?lp21 ?cp21 ?kp21 ?dp21 ?lp22 ?cp22 ?kp22 ?ap22 ?lp23 ?cp23 ?kp23 ?lp24 ?cp24 ?kp24 ?ap24 ?lp25 ?cp25 ?kp25 ?lp26 ?cp26 ?kp26 ?lp27 ?cp27 ?kp27 ?lp28 ?cp28 ?kp28 ?lp29 ?cp29 ?kp29 ?lp30 ?cp30 ?kp30 ?lp31 ?cp31 ?kp31 ?ap31 ?lp32 ?cp32 ?kp32 ?ap32 ?lp33 ?cp33 ?kp33 ?ap33 ?lp34 ?cp34 ?kp34 ?lp35 ?cp35 ?kp35 ?ap35 ?lp36 ?cp36 ?kp36 ?ap36 ?lp37 ?cp37 ?kp37 ?ap37 ?lp38 ?cp38 ?kp38 ?ap38 ?lp39 ?cp39 ?kp39 ?lp40 ?cp40 ?kp40 ?ap40 ?lp41 ?cp41 ?kp41 ?ap41 ?lp42 ?cp42 ?kp42 ?ap42 ?lp43 ?cp43 ?kp43 ?ap43 ?lp44 ?cp44 ?kp44 ?ap44 ?lp45 ?cp45 ?kp45 ?ap45 ?lp46 ?cp46 ?kp46 ?lp47 ?cp47 ?kp47 ?lp48 ?cp48 ?kp48 ?ap48 ?lp49 ?cp49 ?kp49 ?ap49 ?lp50 ?cp50 ?kp50 ?lp51 ?cp51 ?kp51 ?lp52 ?cp52 ?kp52 ?lp53 ?cp53 ?kp53 ?lp54 ?cp54 ?kp54 ?C3Mk ?C3In ?C3If ?C3Kp ?C4Mk ?C4In ?C4If ?C4Kp ?C2Mk ?C2In ?C2If ?C2Kp ?C0Mk ?C0In ?C0If ?C0Kp ?xp12 ?xfp12 ?xp23 ?xfp23 ?xp8 ?xfp8 ?xp30 ?xfp30 ?xp27 ?xfp27 ?xp26 ?xfp26 ?xp28 ?xfp28 ?xp25 ?xfp25 ?C1Mk ?C1In ?C1If ?C1Kp ?C5Mk ?C5In ?C5If ?C5Kp ?C3Pg ?C3Hd ?C3Po ?C3Sa ?C4Pg ?C4Hd ?C4Po ?C4Sa ?C2Pg ?C2Hd ?C2Po ?C2Sa ?C0Pg ?C0Hd ?C0Po ?C0Sa ?C1Pg ?C1Hd ?C1Po ?C1Sa ?C5Pg ?C5Hd ?C5Po ?C5Sa ?C4Ha ?obG ?obT ?C4Hm ?C2Ha ?C2Hm ?C0Ha ?C0Hm ?C1Ha ?C1Hm ?C5Ha ?C5Hm ?gC3 ?gC4 ?gC2 ?gC0 ?gC1 ?gC5 ?icC4 ?tyC4 ?ne_C5_C4 ?su_C5_C4 ?C3nmarks ?C3nsayings ?C4nheights ?C4norder ?C4nreasons ?C2nall_days ?C2ncount ?C2ndays ?C2nnames ?C0nlayers ?C1nbroken ?C1nconfirm ?C1nhigh ?C1nlow ?C1nstep ?C1nthen ?C1nusual ?C1nwhere ?C5ndays ?C5nheights ?C5nreasons ?C0Sf ?xp9 ?xp29 ?xp10 ?xfp9 ?xfp29 ?xfp10 ?xnp29 ?z_abs ?z_all ?z_bool ?z_enumerate ?z_int ?z_isinstance ?z_len ?z_list ?z_min ?z_range ?z_set ?z_sorted ?z_str ?z_sum ?z_tuple ?z_zip ?g_HIGHEST_LAYER ?g_DAY_COUNTS ?q_DAY_COUNTS ?g_KEPT_WORDS ?q_KEPT_WORDS ?g_MOST_MARKS ?g_LONGEST_NAME ?g_HIGHEST_DAY_SET ?g_MOST_SAYINGS ?gE102 ?exE102 ?E102es ?E102ei ?E102et ?E102ek ?E102ee ?icE102 ?tyE102 ?su_E102_E102 ?E102ga ?E102gg ?E102hd ?E102nwhat ?E102nindex ?gE107 ?exE107 ?E107es ?E107ei ?E107et ?E107ek ?E107ee ?icE107 ?tyE107 ?su_E107_E107 ?E107ga ?E107gg ?E107hd ?E107nwhat ?gE109 ?exE109 ?E109es ?E109ei ?E109et ?E109ek ?E109ee ?icE109 ?tyE109 ?su_E109_E109 ?E109ga ?E109gg ?E109hd ?E109nwhat ?E109nnumber ?gE112 ?exE112 ?E112es ?E112ei ?E112et ?E112ek ?E112ee ?icE112 ?tyE112 ?su_E112_E112 ?E112ga ?E112gg ?E112hd ?gE115 ?exE115 ?E115es ?E115ei ?E115et ?E115ek ?E115ee ?icE115 ?tyE115 ?su_E115_E115 ?E115ga ?E115gg ?E115hd ?E115nwhat
    (case ap0 => k_is)
    (case ap1 => k_is)
    (case ap2 => k_is)
    (case ap3 => k_is)
    (case ap4 => k_is)
    (case ap5 => k_is)
    (case ap6 => k_is)
    (case ap11 => k_is)
    (case ap13 => k_is)
    (case ap14 => k_is)
    (case ap15 => k_is)
    (case ap16 => k_is)
    (case ap17 => k_is)
    (case ap18 => k_is)
    (case ap19 => k_is)
    (case ap20 => k_is)
    (case ap22 => k_is)
    (case ap24 => k_is)
    (case ap31 => k_is)
    (case ap32 => k_is)
    (case ap33 => k_is)
    (case ap35 => k_is)
    (case ap36 => k_is)
    (case ap37 => k_is)
    (case ap38 => k_is)
    (case ap40 => k_is)
    (case ap41 => k_is)
    (case ap42 => k_is)
    (case ap43 => k_is)
    (case ap44 => k_is)
    (case ap45 => k_is)
    (case ap48 => k_is)
    (case ap49 => k_is)
    (case gC3 => k_is)
    (case gC4 => k_is)
    (case gC2 => k_is)
    (case gC0 => k_is)
    (case gC1 => k_is)
    (case gC5 => k_is)
    (case z_abs => k_is)
    (case z_all => k_is)
    (case z_bool => k_is)
    (case z_enumerate => k_is)
    (case z_int => k_is)
    (case z_isinstance => k_is)
    (case z_len => k_is)
    (case z_list => k_is)
    (case z_min => k_is)
    (case z_range => k_is)
    (case z_set => k_is)
    (case z_sorted => k_is)
    (case z_str => k_is)
    (case z_sum => k_is)
    (case z_tuple => k_is)
    (case z_zip => k_is)
    (case g_HIGHEST_LAYER => k_is)
    (case g_DAY_COUNTS => k_is)
    (case g_KEPT_WORDS => k_is)
    (case g_MOST_MARKS => k_is)
    (case g_LONGEST_NAME => k_is)
    (case g_HIGHEST_DAY_SET => k_is)
    (case g_MOST_SAYINGS => k_is)
    (case gE102 => k_is)
    (case gE107 => k_is)
    (case gE109 => k_is)
    (case gE112 => k_is)
    (case gE115 => k_is)
    (case C3In => k_is)
    (case C4In => k_is)
    (case C2In => k_is)
    (case C0In => k_is)
    (case xp12 => k_is)
    (case xp23 => k_is)
    (case xp8 => k_is)
    (case xp30 => k_is)
    (case xp27 => k_is)
    (case xp26 => k_is)
    (case xp28 => k_is)
    (case xp25 => k_is)
    (case C1In => k_is)
    (case C5In => k_is)
    (case xp9 => k_is)
    (case xp29 => k_is)
    (case xp10 => k_is)
    (case E102ei => k_is)
    (case E107ei => k_is)
    (case E109ei => k_is)
    (case E112ei => k_is)
    (case E115ei => k_is)
    (case exE102 => k_is)
    (case exE107 => k_is)
    (case exE109 => k_is)
    (case exE112 => k_is)
    (case exE115 => k_is)
    (case lp0 => k_is)
    (case lp1 => k_is)
    (case lp2 => k_is)
    (case lp3 => k_is)
    (case lp4 => k_is)
    (case lp5 => k_is)
    (case lp6 => k_is)
    (case lp7 => k_is)
    (case lp8 => k_is)
    (case lp9 => k_is)
    (case lp10 => k_is)
    (case lp11 => k_is)
    (case lp12 => k_is)
    (case lp13 => k_is)
    (case lp14 => k_is)
    (case lp15 => k_is)
    (case lp16 => k_is)
    (case lp17 => k_is)
    (case lp18 => k_is)
    (case lp19 => k_is)
    (case lp20 => k_is)
    (case lp21 => k_is)
    (case lp22 => k_is)
    (case lp23 => k_is)
    (case lp24 => k_is)
    (case lp25 => k_is)
    (case lp26 => k_is)
    (case lp27 => k_is)
    (case lp28 => k_is)
    (case lp29 => k_is)
    (case lp30 => k_is)
    (case lp31 => k_is)
    (case lp32 => k_is)
    (case lp33 => k_is)
    (case lp34 => k_is)
    (case lp35 => k_is)
    (case lp36 => k_is)
    (case lp37 => k_is)
    (case lp38 => k_is)
    (case lp39 => k_is)
    (case lp40 => k_is)
    (case lp41 => k_is)
    (case lp42 => k_is)
    (case lp43 => k_is)
    (case lp44 => k_is)
    (case lp45 => k_is)
    (case lp46 => k_is)
    (case lp47 => k_is)
    (case lp48 => k_is)
    (case lp49 => k_is)
    (case lp50 => k_is)
    (case lp51 => k_is)
    (case lp52 => k_is)
    (case lp53 => k_is)
    (case lp54 => k_is)
    (case cp0 => k_is)
    (case kp0 => k_is)
    (case cp1 => k_is)
    (case kp1 => k_is)
    (case cp2 => k_is)
    (case kp2 => k_is)
    (case cp3 => k_is)
    (case kp3 => k_is)
    (case cp4 => k_is)
    (case kp4 => k_is)
    (case cp5 => k_is)
    (case kp5 => k_is)
    (case cp6 => k_is)
    (case kp6 => k_is)
    (case cp7 => k_is)
    (case kp7 => k_is)
    (case cp8 => k_is)
    (case kp8 => k_is)
    (case cp9 => k_is)
    (case kp9 => k_is)
    (case cp10 => k_is)
    (case kp10 => k_is)
    (case cp11 => k_is)
    (case kp11 => k_is)
    (case cp12 => k_is)
    (case kp12 => k_is)
    (case cp13 => k_is)
    (case kp13 => k_is)
    (case cp14 => k_is)
    (case kp14 => k_is)
    (case cp15 => k_is)
    (case kp15 => k_is)
    (case cp16 => k_is)
    (case kp16 => k_is)
    (case cp17 => k_is)
    (case kp17 => k_is)
    (case cp18 => k_is)
    (case kp18 => k_is)
    (case cp19 => k_is)
    (case kp19 => k_is)
    (case cp20 => k_is)
    (case kp20 => k_is)
    (case cp21 => k_is)
    (case kp21 => k_is)
    (case dp21 => k_is)
    (case cp22 => k_is)
    (case kp22 => k_is)
    (case cp23 => k_is)
    (case kp23 => k_is)
    (case cp24 => k_is)
    (case kp24 => k_is)
    (case cp25 => k_is)
    (case kp25 => k_is)
    (case cp26 => k_is)
    (case kp26 => k_is)
    (case cp27 => k_is)
    (case kp27 => k_is)
    (case cp28 => k_is)
    (case kp28 => k_is)
    (case cp29 => k_is)
    (case kp29 => k_is)
    (case cp30 => k_is)
    (case kp30 => k_is)
    (case cp31 => k_is)
    (case kp31 => k_is)
    (case cp32 => k_is)
    (case kp32 => k_is)
    (case cp33 => k_is)
    (case kp33 => k_is)
    (case cp34 => k_is)
    (case kp34 => k_is)
    (case cp35 => k_is)
    (case kp35 => k_is)
    (case cp36 => k_is)
    (case kp36 => k_is)
    (case cp37 => k_is)
    (case kp37 => k_is)
    (case cp38 => k_is)
    (case kp38 => k_is)
    (case cp39 => k_is)
    (case kp39 => k_is)
    (case cp40 => k_is)
    (case kp40 => k_is)
    (case cp41 => k_is)
    (case kp41 => k_is)
    (case cp42 => k_is)
    (case kp42 => k_is)
    (case cp43 => k_is)
    (case kp43 => k_is)
    (case cp44 => k_is)
    (case kp44 => k_is)
    (case cp45 => k_is)
    (case kp45 => k_is)
    (case cp46 => k_is)
    (case kp46 => k_is)
    (case cp47 => k_is)
    (case kp47 => k_is)
    (case cp48 => k_is)
    (case kp48 => k_is)
    (case cp49 => k_is)
    (case kp49 => k_is)
    (case cp50 => k_is)
    (case kp50 => k_is)
    (case cp51 => k_is)
    (case kp51 => k_is)
    (case cp52 => k_is)
    (case kp52 => k_is)
    (case cp53 => k_is)
    (case kp53 => k_is)
    (case cp54 => k_is)
    (case kp54 => k_is)
    (case C3Mk => k_is)
    (case C3If => k_is)
    (case C3Kp => k_is)
    (case C4Mk => k_is)
    (case C4If => k_is)
    (case C4Kp => k_is)
    (case C2Mk => k_is)
    (case C2If => k_is)
    (case C2Kp => k_is)
    (case C0Mk => k_is)
    (case C0If => k_is)
    (case C0Kp => k_is)
    (case xfp12 => k_is)
    (case xfp23 => k_is)
    (case xfp8 => k_is)
    (case xfp30 => k_is)
    (case xfp27 => k_is)
    (case xfp26 => k_is)
    (case xfp28 => k_is)
    (case xfp25 => k_is)
    (case C1Mk => k_is)
    (case C1If => k_is)
    (case C1Kp => k_is)
    (case C5Mk => k_is)
    (case C5If => k_is)
    (case C5Kp => k_is)
    (case C3Pg => k_is)
    (case C3Hd => k_is)
    (case C3Po => k_is)
    (case C3Sa => k_is)
    (case C4Pg => k_is)
    (case C4Hd => k_is)
    (case C4Po => k_is)
    (case C4Sa => k_is)
    (case C2Pg => k_is)
    (case C2Hd => k_is)
    (case C2Po => k_is)
    (case C2Sa => k_is)
    (case C0Pg => k_is)
    (case C0Hd => k_is)
    (case C0Po => k_is)
    (case C0Sa => k_is)
    (case C1Pg => k_is)
    (case C1Hd => k_is)
    (case C1Po => k_is)
    (case C1Sa => k_is)
    (case C5Pg => k_is)
    (case C5Hd => k_is)
    (case C5Po => k_is)
    (case C5Sa => k_is)
    (case C4Ha => k_is)
    (case obG => k_is)
    (case obT => k_is)
    (case C4Hm => k_is)
    (case C2Ha => k_is)
    (case C2Hm => k_is)
    (case C0Ha => k_is)
    (case C0Hm => k_is)
    (case C1Ha => k_is)
    (case C1Hm => k_is)
    (case C5Ha => k_is)
    (case C5Hm => k_is)
    (case icC4 => k_is)
    (case tyC4 => k_is)
    (case ne_C5_C4 => rfl)
    (case su_C5_C4 => k_is)
    (case C3nmarks => k_is)
    (case C3nsayings => k_is)
    (case C4nheights => k_is)
    (case C4norder => k_is)
    (case C4nreasons => k_is)
    (case C2nall_days => k_is)
    (case C2ncount => k_is)
    (case C2ndays => k_is)
    (case C2nnames => k_is)
    (case C0nlayers => k_is)
    (case C1nbroken => k_is)
    (case C1nconfirm => k_is)
    (case C1nhigh => k_is)
    (case C1nlow => k_is)
    (case C1nstep => k_is)
    (case C1nthen => k_is)
    (case C1nusual => k_is)
    (case C1nwhere => k_is)
    (case C5ndays => k_is)
    (case C5nheights => k_is)
    (case C5nreasons => k_is)
    (case C0Sf => k_is)
    (case xfp9 => k_is)
    (case xfp29 => k_is)
    (case xfp10 => k_is)
    (case xnp29 => k_is)
    (case q_DAY_COUNTS => k_is)
    (case q_KEPT_WORDS => k_is)
    (case E102es => k_is)
    (case E102et => k_is)
    (case E102ek => k_is)
    (case E102ee => k_is)
    (case icE102 => k_is)
    (case tyE102 => k_is)
    (case su_E102_E102 => first | rfl | k_is)
    (case E102ga => k_is)
    (case E102gg => k_is)
    (case E102hd => k_is)
    (case E102nwhat => k_is)
    (case E102nindex => k_is)
    (case E107es => k_is)
    (case E107et => k_is)
    (case E107ek => k_is)
    (case E107ee => k_is)
    (case icE107 => k_is)
    (case tyE107 => k_is)
    (case su_E107_E107 => first | rfl | k_is)
    (case E107ga => k_is)
    (case E107gg => k_is)
    (case E107hd => k_is)
    (case E107nwhat => k_is)
    (case E109es => k_is)
    (case E109et => k_is)
    (case E109ek => k_is)
    (case E109ee => k_is)
    (case icE109 => k_is)
    (case tyE109 => k_is)
    (case su_E109_E109 => first | rfl | k_is)
    (case E109ga => k_is)
    (case E109gg => k_is)
    (case E109hd => k_is)
    (case E109nwhat => k_is)
    (case E109nnumber => k_is)
    (case E112es => k_is)
    (case E112et => k_is)
    (case E112ek => k_is)
    (case E112ee => k_is)
    (case icE112 => k_is)
    (case tyE112 => k_is)
    (case su_E112_E112 => first | rfl | k_is)
    (case E112ga => k_is)
    (case E112gg => k_is)
    (case E112hd => k_is)
    (case E115es => k_is)
    (case E115et => k_is)
    (case E115ek => k_is)
    (case E115ee => k_is)
    (case icE115 => k_is)
    (case tyE115 => k_is)
    (case su_E115_E115 => first | rfl | k_is)
    (case E115ga => k_is)
    (case E115gg => k_is)
    (case E115hd => k_is)
    (case E115nwhat => k_is)
