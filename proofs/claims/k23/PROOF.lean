import PyProof.Rows.All
import Wide.All
import OpenK.AllK
import Wide.FinOn
import HandS.ForMost
import HandS.ForExc
import HandS.More
import HandS.IsInst
import HandS.Star
import HandS.ExcInit
import HandS.ExcField
import HandS.FStr
import HandS.ExcCtx
import HandS.SortInts
import KE.KOpsOwn
import HandS.ExcIs
import HandS.ClsMeth
import HandS.Property
import HandS.SortRule
import HandS.Strs
import HandS.SetBool
import HandS.Zip
import HandS.OwnEq
import HandS.TryMany
import HandS.Small
import HandS.Style
import KE.KRevSl
import KE.KSuper
import HandS.Defaults
import HandS.MakeKwOnly
import HandS.Flow
import HandS.Dict
import HandS.Conv
import KE.GoesZip
import KE.GoesMore
import PySem.Challenge.RW_gaugemiss_k23_rule_refusals
set_option Elab.async false
set_option linter.all false
set_option maxRecDepth 100000
set_option maxHeartbeats 2000000
namespace G
open PySem L2

/-! ### the world: where classes stand, which objects change, what holds of those -/
/-- the classes of the program -/
inductive Cn where
  | GaugeError | BadStretch | NoLevel | Apart | BadNeed | BadLiars | BadGauge | DuplicateGauge | UnknownGauge | MissingReading | BadRule | BadText | BadLine | SharedFault | BadPaper | NoBound
  | BadLimit | NoCase | NoTruth | NoTick | NotPossible | NothingToUndo | NothingToRedo | NotRanked | NoRule
  | Stretch | Levels | Gauge | CoarseGauge | LateGauge | LateCoarseGauge | Rack | Rule | Leaf | Rank | Trim | Weigh | Miss | Case | Twins | Keeper | Desk | SteadyDesk | Finder
  | other (n : Nat)
structure Bs where
  K : PySem.W.Frag
  cl : Cn → Addr
structure Wc where
  B : Bs
  mu : Addr → Prop
  box : Addr → Prop
def Wc.plus (W : Wc) (D : Addr) : Wc := ⟨W.B, fun a => W.mu a ∨ a = D, W.box⟩
def Kp (W : Wc) (H H' : Hp) : Prop := ∀ a o, ¬ W.mu a → H a = some o → H' a = some o
/-- the box of draws at b: its cells, the place, what is pending, the salt -/
def BoxAt (b : Addr) (H : Hp) : Prop := ∃ (c : Addr) (ns : List Int) (i p s : Int), b ≠ c ∧ H b = some (.lst [.ref c, .int i, .int p, .int s]) ∧ H c = some (.lst (ns.map V.int)) ∧ 0 ≤ i ∧ 0 ≤ p
/-- the core, what the changing objects are, and what is wished of errors that leave -/
structure Wd extends Wc where
  ok : Hp → Prop
  live : ∀ H a, ok H → mu a → ∃ o, H a = some o
  st : ∀ H p o, ok H → ¬ mu p → ok (upd H p o)
  wish : Hp → Prop
  wst : ∀ H H', (∀ a o, ¬ mu a → H a = some o → H' a = some o) → ok H' → wish H → wish H'
  hasbox : ∀ H b, ok H → box b → BoxAt b H
  boxset : ∀ H b c i p s i' p' s', ok H → box b → H b = some (.lst [.ref c, .int i, .int p, .int s]) → 0 ≤ i' → 0 ≤ p' → ok (upd H b (.lst [.ref c, .int i', .int p', .int s']))
  boxmu : ∀ b, box b → mu b
  oke : ∀ H H', ok H → (∀ a o, H a = some o → H' a = some o) → ok H'
instance : Coe Wd Wc := ⟨Wd.toWc⟩
structure Ext (W : Wd) (H H' : Hp) : Prop where
  keep : Kp W H H'
  ok : W.ok H'
theorem Ext.refl {W : Wd} {H : Hp} (h : W.ok H) : Ext W H H := ⟨fun _ _ _ e => e, h⟩
theorem Ext.trans {W : Wd} {H H1 H2 : Hp} (a : Ext W H H1) (b : Ext W H1 H2) : Ext W H H2 := ⟨fun c o n e => b.keep c o n (a.keep c o n e), b.ok⟩
theorem fresh_mu {W : Wd} {H : Hp} {p : Addr} (h : W.ok H) (n : H p = none) : ¬ W.mu p := fun m => by
  obtain ⟨o, e⟩ := W.live H p h m
  rw [n] at e
  cases e
theorem Ext.new {W : Wd} {H : Hp} {p : Addr} {o : HO} (h : W.ok H) (n : H p = none) : Ext W H (upd H p o) :=
  ⟨fun a u _ e => by rw [upd_ne (ne_of_none e n)]; exact e, W.st H p o h (fresh_mu h n)⟩
/-- the world where a new list at D, not there in H1, is kept apart: it holds xs -/
def Wd.plus (W : Wd) (D : Addr) (xs : List V) (H1 : Hp) (n : H1 D = none) (o1 : W.ok H1) (w1 : W.wish H1) : Wd where
  toWc := W.toWc.plus D
  ok := fun H => W.ok H ∧ H D = some (.lst xs)
  live := fun H a ⟨h, e⟩ m => by
    rcases m with m | m
    · exact W.live H a h m
    · subst m; exact ⟨_, e⟩
  st := fun H p o ⟨h, e⟩ m => ⟨W.st H p o h (fun z => m (.inl z)), by rw [upd_ne (fun z => m (.inr z.symm))]; exact e⟩
  wish := fun H => (∀ a o, ¬ W.mu a → H1 a = some o → H a = some o)
  wst := fun H H' k _ w a o m e => k a o (fun z => z.elim m fun z => by subst z; rw [n] at e; cases e) (w a o m e)
  hasbox := fun H b ⟨h, _⟩ hb => W.hasbox H b h hb
  boxset := fun H b c i p s i' p' s' ⟨h, e⟩ hb q h1 h2 => ⟨W.boxset H b c i p s i' p' s' h hb q h1 h2, by
    have z : D ≠ b := fun z => by
      subst z
      exact fresh_mu o1 n (W.boxmu _ hb)
    rw [upd_ne z]; exact e⟩
  boxmu := fun b hb => .inl (W.boxmu b hb)
  oke := fun H H' ⟨h, e⟩ k => ⟨W.oke H H' h k, k _ _ e⟩
/-- W' is W with more objects that change -/
structure Sub (W W' : Wd) : Prop where
  B : W'.B = W.B
  ok : ∀ H, W'.ok H → W.ok H
  wish : ∀ H, W'.ok H → W'.wish H → W.wish H
theorem Sub.refl (W : Wd) : Sub W W := ⟨rfl, fun _ h => h, fun _ _ h => h⟩
theorem Sub.trans {W W1 W2 : Wd} (a : Sub W W1) (b : Sub W1 W2) : Sub W W2 := ⟨b.B.trans a.B, fun H h => a.ok H (b.ok H h), fun H o h => a.wish H (b.ok H o) (b.wish H o h)⟩
theorem Sub.plus {W : Wd} {D : Addr} {xs : List V} {H1 : Hp} {n : H1 D = none} {o1 : W.ok H1} {w1 : W.wish H1} : Sub W (W.plus D xs H1 n o1 w1) :=
  ⟨rfl, fun _ h => h.1, fun H h w => W.wst H1 H w h.1 w1⟩

/-! ### plain data and how it stands in the heap -/
class Rep (α : Type) where
  dn : Wc → Hp → V → α → Prop
  mono : ∀ {W : Wc} {H H' : Hp} {v : V} {a : α}, Kp W H H' → dn W H v a → dn W H' v a
  grow : ∀ {W : Wc} {H : Hp} {v : V} {a : α} (D : Addr), H D = none → dn W H v a → dn (W.plus D) H v a
  shrink : ∀ {W : Wc} {H : Hp} {v : V} {a : α} (D : Addr), dn (W.plus D) H v a → dn W H v a

abbrev den {α : Type} [r : Rep α] (W : Wc) (H : Hp) (v : V) (a : α) : Prop := r.dn W H v a
inductive Dl {α : Type} (f : V → α → Prop) : List V → List α → Prop
  | nil : Dl f [] []
  | cons {v : V} {a : α} {vs : List V} {as : List α} : f v a → Dl f vs as → Dl f (v :: vs) (a :: as)
theorem Dl.imp {α : Type} {f g : V → α → Prop} (h : ∀ v a, f v a → g v a) : ∀ {vs : List V} {as : List α}, Dl f vs as → Dl g vs as
  | _, _, .nil => .nil
  | _, _, .cons x y => .cons (h _ _ x) (y.imp h)
theorem Dl.length {α : Type} {f : V → α → Prop} : ∀ {vs : List V} {as : List α}, Dl f vs as → vs.length = as.length
  | _, _, .nil => rfl
  | _, _, .cons _ y => congrArg (· + 1) y.length
theorem Dl.append {α : Type} {f : V → α → Prop} : ∀ {vs ws : List V} {as bs : List α}, Dl f vs as → Dl f ws bs → Dl f (vs ++ ws) (as ++ bs)
  | _, _, _, _, .nil, h => h
  | _, _, _, _, .cons x y, h => .cons x (y.append h)
theorem Dl.at {α : Type} {f : V → α → Prop} : ∀ {vs : List V} {as : List α} {i : Nat} {v : V}, Dl f vs as → vs[i]? = some v → ∃ a, as[i]? = some a ∧ f v a
  | _, _, _, _, .nil, h => by simp at h
  | _, _, 0, _, .cons x y, h => ⟨_, rfl, by simp at h; subst h; exact x⟩
  | _, _, i + 1, _, .cons x y, h => by
    obtain ⟨a, h1, h2⟩ := Dl.at (i := i) y (by simpa using h)
    exact ⟨a, by simpa using h1, h2⟩
theorem Dl.at' {α : Type} {f : V → α → Prop} : ∀ {vs : List V} {as : List α} {i : Nat} {a : α}, Dl f vs as → as[i]? = some a → ∃ v, vs[i]? = some v ∧ f v a
  | _, _, _, _, .nil, h => by simp at h
  | _, _, 0, _, .cons x y, h => ⟨_, rfl, by simp at h; subst h; exact x⟩
  | _, _, i + 1, _, .cons x y, h => by
    obtain ⟨a, h1, h2⟩ := Dl.at' (i := i) y (by simpa using h)
    exact ⟨a, by simpa using h1, h2⟩
theorem Dl.ints {vs : List V} {as : List Int} (h : Dl (fun v (a : Int) => v = .int a) vs as) : vs = as.map V.int := by
  induction h with
  | nil => rfl
  | cons x _ ih => rw [x, ih]; rfl
theorem Dl.of_ints : ∀ as : List Int, Dl (fun v (a : Int) => v = .int a) (as.map V.int) as
  | [] => .nil
  | _ :: r => .cons rfl (Dl.of_ints r)

/-- a list that does not change now; a tuple: tracked, or of the written part -/
def Lq (W : Wc) (H : Hp) (p : Addr) (vs : List V) : Prop := ¬ W.mu p ∧ H p = some (.lst vs)
def Tq (W : Wc) (H : Hp) (p : Addr) (vs : List V) : Prop := ¬ W.mu p ∧ H p = some (.tup vs)
theorem Lq.sq {W : Wc} {H : Hp} {p : Addr} {vs : List V} (h : Lq W H p vs) : SqL W.B.K H p vs := .inl (.inl h.2)
theorem Tq.sq {W : Wc} {H : Hp} {p : Addr} {vs : List V} (h : Tq W H p vs) : SqT W.B.K H p vs := .inl (.inl h.2)
theorem Lq.mono {W : Wc} {H H' : Hp} {p : Addr} {vs : List V} (e : Kp W H H') (h : Lq W H p vs) : Lq W H' p vs := ⟨h.1, e _ _ h.1 h.2⟩
theorem Tq.mono {W : Wc} {H H' : Hp} {p : Addr} {vs : List V} (e : Kp W H H') (h : Tq W H p vs) : Tq W H' p vs := ⟨h.1, e _ _ h.1 h.2⟩
theorem mu_grow {W : Wc} {H : Hp} {p D : Addr} {o : HO} (n : H D = none) (m : ¬ W.mu p) (h : H p = some o) : ¬ (W.plus D).mu p := fun z => z.elim m fun z => by
  subst z
  rw [n] at h
  cases h
theorem Lq.grow {W : Wc} {H : Hp} {p : Addr} {vs : List V} (D : Addr) (n : H D = none) (h : Lq W H p vs) : Lq (W.plus D) H p vs := ⟨mu_grow n h.1 h.2, h.2⟩
theorem Tq.grow {W : Wc} {H : Hp} {p : Addr} {vs : List V} (D : Addr) (n : H D = none) (h : Tq W H p vs) : Tq (W.plus D) H p vs := ⟨mu_grow n h.1 h.2, h.2⟩
theorem Lq.shrink {W : Wc} {H : Hp} {p : Addr} {vs : List V} (D : Addr) (h : Lq (W.plus D) H p vs) : Lq W H p vs := ⟨fun z => h.1 (.inl z), h.2⟩
theorem Tq.shrink {W : Wc} {H : Hp} {p : Addr} {vs : List V} (D : Addr) (h : Tq (W.plus D) H p vs) : Tq W H p vs := ⟨fun z => h.1 (.inl z), h.2⟩
theorem Lq.new {W : Wc} {H : Hp} {p : Addr} {vs : List V} (m : ¬ W.mu p) (h : H p = some (.lst vs)) : Lq W H p vs := ⟨m, h⟩
theorem Tq.new {W : Wc} {H : Hp} {p : Addr} {vs : List V} (m : ¬ W.mu p) (h : H p = some (.tup vs)) : Tq W H p vs := ⟨m, h⟩

instance : Rep Int := ⟨fun _ _ v a => v = .int a, fun _ h => h, fun _ _ h => h, fun _ h => h⟩
instance : Rep Bool := ⟨fun _ _ v a => v = .bl a, fun _ h => h, fun _ _ h => h, fun _ h => h⟩
instance : Rep Str := ⟨fun _ _ v a => v = .str a, fun _ h => h, fun _ _ h => h, fun _ h => h⟩
instance : Rep Unit := ⟨fun _ _ v _ => v = .non, fun _ h => h, fun _ _ h => h, fun _ h => h⟩
instance {α β : Type} [Rep α] [Rep β] : Rep (α × β) :=
  ⟨fun W H v a => ∃ p x y, v = .ref p ∧ Tq W H p [x, y] ∧ den W H x a.1 ∧ den W H y a.2,
   fun e ⟨p, x, y, hv, s, h1, h2⟩ => ⟨p, x, y, hv, s.mono e, Rep.mono e h1, Rep.mono e h2⟩,
   fun D n ⟨p, x, y, hv, s, h1, h2⟩ => ⟨p, x, y, hv, s.grow D n, Rep.grow D n h1, Rep.grow D n h2⟩,
   fun D ⟨p, x, y, hv, s, h1, h2⟩ => ⟨p, x, y, hv, s.shrink D, Rep.shrink D h1, Rep.shrink D h2⟩⟩
/-- a tuple of three -/
structure T3 (α β γ : Type) where
  a : α
  b : β
  c : γ
instance {α β γ : Type} [Rep α] [Rep β] [Rep γ] : Rep (T3 α β γ) :=
  ⟨fun W H v t => ∃ p x y z, v = .ref p ∧ Tq W H p [x, y, z] ∧ den W H x t.a ∧ den W H y t.b ∧ den W H z t.c,
   fun e ⟨p, x, y, z, hv, s, h1, h2, h3⟩ => ⟨p, x, y, z, hv, s.mono e, Rep.mono e h1, Rep.mono e h2, Rep.mono e h3⟩,
   fun D n ⟨p, x, y, z, hv, s, h1, h2, h3⟩ => ⟨p, x, y, z, hv, s.grow D n, Rep.grow D n h1, Rep.grow D n h2, Rep.grow D n h3⟩,
   fun D ⟨p, x, y, z, hv, s, h1, h2, h3⟩ => ⟨p, x, y, z, hv, s.shrink D, Rep.shrink D h1, Rep.shrink D h2, Rep.shrink D h3⟩⟩
instance {α : Type} [Rep α] : Rep (List α) :=
  ⟨fun W H v as => ∃ p vs, v = .ref p ∧ Lq W H p vs ∧ Dl (den W H) vs as,
   fun e ⟨p, vs, hv, s, h⟩ => ⟨p, vs, hv, s.mono e, h.imp fun _ _ x => Rep.mono e x⟩,
   fun D n ⟨p, vs, hv, s, h⟩ => ⟨p, vs, hv, s.grow D n, h.imp fun _ _ x => Rep.grow D n x⟩,
   fun D ⟨p, vs, hv, s, h⟩ => ⟨p, vs, hv, s.shrink D, h.imp fun _ _ x => Rep.shrink D x⟩⟩
/-- the box of draws: an object that changes -/
structure Bx where
instance : Rep Bx := ⟨fun W _ v _ => ∃ b, v = .ref b ∧ W.box b, fun _ h => h, fun _ _ h => h, fun _ h => h⟩

/-! ### typed slots -/
structure Ty where
  α : Type
  r : Rep α
  a : α
abbrev T {α : Type} [r : Rep α] (a : α) : Ty := ⟨α, r, a⟩
def Ty.den (W : Wc) (H : Hp) (v : V) (t : Ty) : Prop := t.r.dn W H v t.a
theorem Ty.mono {W : Wc} {H H' : Hp} {v : V} {t : Ty} (e : Kp W H H') (h : t.den W H v) : t.den W H' v := t.r.mono e h
abbrev Gam := List (Option Ty)
structure GOk (W : Wd) (H : Hp) (σ : St) (Γ : Gam) : Prop where
  ok : W.ok H
  wish : W.wish H
  at_ : ∀ (i : Nat) (t : Ty), Γ[i]? = some (some t) → ∃ v, σ[i]? = some (some v) ∧ t.den W H v
  len : σ.length = Γ.length
theorem GOk.ext {W : Wd} {H H' : Hp} {σ : St} {Γ : Gam} (E : GOk W H σ Γ) (e : Ext W H H') : GOk W H' σ Γ :=
  ⟨e.ok, W.wst _ _ e.keep e.ok E.wish, fun i t h => let ⟨v, h1, h2⟩ := E.at_ i t h; ⟨v, h1, Ty.mono e.keep h2⟩, E.len⟩
theorem GOk.set {W : Wd} {H : Hp} {σ : St} {Γ : Gam} (E : GOk W H σ Γ) (i : Nat) {v : V} {t : Ty} (h : t.den W H v) : GOk W H (σ.set i (some v)) (Γ.set i (some t)) := by
  refine ⟨E.ok, E.wish, fun j u hj => ?_, by rw [List.length_set, List.length_set]; exact E.len⟩
  by_cases e : i = j
  · subst e
    have hl : i < Γ.length := by
      have := (List.getElem?_eq_some_iff.mp hj).1
      rwa [List.length_set] at this
    rw [List.getElem?_set_self hl] at hj
    cases hj
    exact ⟨v, List.getElem?_set_self (by rw [E.len]; exact hl), h⟩
  · rw [List.getElem?_set_ne e] at hj
    rw [List.getElem?_set_ne e]
    exact E.at_ j u hj
theorem GOk.unset {W : Wd} {H : Hp} {σ : St} {Γ : Gam} (E : GOk W H σ Γ) (i : Nat) : GOk W H (σ.set i none) (Γ.set i none) := by
  refine ⟨E.ok, E.wish, fun j u hj => ?_, by rw [List.length_set, List.length_set]; exact E.len⟩
  by_cases e : i = j
  · subst e
    have hl : i < Γ.length := by
      have := (List.getElem?_eq_some_iff.mp hj).1
      rwa [List.length_set] at this
    rw [List.getElem?_set_self hl] at hj
    cases hj
  · rw [List.getElem?_set_ne e] at hj
    rw [List.getElem?_set_ne e]
    exact E.at_ j u hj
def wipeE (Γ : Gam) : List Nat → Gam
  | [] => Γ
  | i :: r => (wipeE Γ r).set i none
theorem GOk.wipe {W : Wd} {H : Hp} {σ : St} {Γ : Gam} (E : GOk W H σ Γ) : ∀ vs : List Nat, GOk W H (wipe σ vs) (wipeE Γ vs)
  | [] => E
  | i :: r => (E.wipe r).unset i

/-! ### what an expression comes to, a predicate transformer over plain data -/
def EvK {α : Type} [Rep α] (W : Wd) (te : TE) (Γ : Gam) (k : α → Prop) : Prop :=
  ∀ σ H (Q : VK), GOk W H σ Γ → (∀ v H' (a : α), Ext W H H' → den W H' v a → k a → Q v H') → te σ H Q
def EvT (W : Wd) (tt : TT) (Γ : Gam) (k : Bool → Prop) : Prop :=
  ∀ σ H (Q : Bool → Hp → Prop), GOk W H σ Γ → (∀ H' b, Ext W H H' → k b → Q b H') → tt σ H Q
/-- arguments: a list of typed data -/
inductive DT (W : Wc) (H : Hp) : List V → List Ty → Prop
  | nil : DT W H [] []
  | cons {v : V} {t : Ty} {vs : List V} {ts : List Ty} : t.den W H v → DT W H vs ts → DT W H (v :: vs) (t :: ts)
theorem DT.mono {W : Wc} {H H' : Hp} (e : Kp W H H') : ∀ {vs : List V} {ts : List Ty}, DT W H vs ts → DT W H' vs ts
  | _, _, .nil => .nil
  | _, _, .cons x y => .cons (Ty.mono e x) (y.mono e)
theorem DT.length {W : Wc} {H : Hp} : ∀ {vs : List V} {ts : List Ty}, DT W H vs ts → vs.length = ts.length
  | _, _, .nil => rfl
  | _, _, .cons _ y => congrArg (· + 1) y.length
def EvA (W : Wd) (ta : TA) (Γ : Gam) (k : List Ty → Prop) : Prop :=
  ∀ σ H (Q : List V → Hp → Prop), GOk W H σ Γ → (∀ vs H' ts, Ext W H H' → DT W H' vs ts → k ts → Q vs H') → ta σ H Q
section
variable {W : Wd} {Γ : Gam} {ta tb tc te : TE} {tt tu : TT}

theorem EvK.imp {α : Type} {rα : Rep α} {k k' : α → Prop} (h : EvK W te Γ k) (i : ∀ a, k a → k' a) : EvK W te Γ k' :=
  fun σ H Q E q => h σ H Q E fun v H' a e d z => q v H' a e d (i a z)
theorem ev_var {α : Type} {r : Rep α} {i : Nat} {a : α} {k : α → Prop} (h : Γ[i]? = some (some (T a))) (q : k a) : EvK W (tVar i) Γ k := fun σ H Q E c => by
  obtain ⟨v, h1, h2⟩ := E.at_ i _ h
  exact ⟨v, h1, c v H a (Ext.refl E.ok) h2 q⟩
theorem ev_int {i : Int} {k : Int → Prop} (q : k i) : EvK W (tC (.int i)) Γ k := fun σ H Q E c => c _ H i (Ext.refl E.ok) rfl q
theorem ev_bl {i : Bool} {k : Bool → Prop} (q : k i) : EvK W (tC (.bl i)) Γ k := fun σ H Q E c => c _ H i (Ext.refl E.ok) rfl q
theorem ev_str {i : Str} {k : Str → Prop} (q : k i) : EvK W (tC (.str i)) Γ k := fun σ H Q E c => c _ H i (Ext.refl E.ok) rfl q
theorem ev_non {k : Unit → Prop} (q : k ()) : EvK W (tC .non) Γ k := fun σ H Q E c => c _ H () (Ext.refl E.ok) rfl q
/-- two parts, one behind the other -/
theorem ev_two {α β γ : Type} {rα : Rep α} {rβ : Rep β} {rγ : Rep γ} {r : R2} {k : γ → Prop}
    (h : EvK W ta Γ fun a : α => EvK W tb Γ fun b : β => ∀ x y H (Q : VK), W.ok H → den W H x a → den W H y b → (∀ v H' (c : γ), Ext W H H' → den W H' v c → k c → Q v H') → r x y H Q) : EvK W (tOp r ta tb) Γ k := fun σ H Q E c =>
  h σ H _ E fun x H1 a e1 d1 h1 => h1 σ H1 _ (E.ext e1) fun y H2 b e2 d2 h2 => h2 x y H2 Q e2.ok (Rep.mono e2.keep d1) d2 fun v H3 a3 e3 d3 z => c v H3 a3 ((e1.trans e2).trans e3) d3 z
theorem ev_opI {f : Int → Int → Int} {k : Int → Prop} (h : EvK W ta Γ fun i : Int => EvK W tb Γ fun j : Int => k (f i j)) : EvK W (tOp (rI0 fun i j => .int (f i j)) ta tb) Γ k :=
  ev_two (h.imp fun i hi => hi.imp fun j hj x y H Q o dx dy c => ⟨i, j, dx, dy, c _ H _ (Ext.refl o) rfl hj⟩)
theorem ev_opB {f : Int → Int → Bool} {k : Bool → Prop} (h : EvK W ta Γ fun i : Int => EvK W tb Γ fun j : Int => k (f i j)) : EvK W (tOp (rI0 fun i j => .bl (f i j)) ta tb) Γ k :=
  ev_two (h.imp fun i hi => hi.imp fun j hj x y H Q o dx dy c => ⟨i, j, dx, dy, c _ H _ (Ext.refl o) rfl hj⟩)
theorem ev_opC {C : Int → Int → Prop} {f : Int → Int → Int} {k : Int → Prop} (h : EvK W ta Γ fun i : Int => EvK W tb Γ fun j : Int => C i j ∧ k (f i j)) : EvK W (tOp (rI C fun i j => .int (f i j)) ta tb) Γ k :=
  ev_two (h.imp fun i hi => hi.imp fun j hj x y H Q o dx dy c => ⟨i, j, dx, dy, hj.1, c _ H _ (Ext.refl o) rfl hj.2⟩)
theorem ev_unI {f : Int → Int} {k : Int → Prop} (h : EvK W ta Γ fun i : Int => k (f i)) : EvK W (tUn (rU fun i => .int (f i)) ta) Γ k := fun σ H Q E c =>
  h σ H _ E fun x H1 i e1 d1 h1 => ⟨i, d1, c _ H1 _ e1 rfl h1⟩
theorem ev_if {α : Type} {rα : Rep α} {k : α → Prop} (h : EvT W tt Γ fun b => (b = true → EvK W ta Γ k) ∧ (b = false → EvK W tb Γ k)) : EvK W (tIf tt ta tb) Γ k := fun σ H Q E c =>
  h σ H _ E fun H1 b e1 ⟨h1, h2⟩ => by
    cases b with
    | true => exact h1 rfl σ H1 Q (E.ext e1) fun v H2 a e2 d z => c v H2 a (e1.trans e2) d z
    | false => exact h2 rfl σ H1 Q (E.ext e1) fun v H2 a e2 d z => c v H2 a (e1.trans e2) d z
theorem ev_andV {k : Bool → Prop} (h : EvK W ta Γ fun a : Bool => (a = true → EvK W tb Γ k) ∧ (a = false → k false)) : EvK W (tAndV ta tb) Γ k := fun σ H Q E c =>
  h σ H _ E fun x H1 a e1 d1 ⟨h1, h2⟩ => ⟨a, d1, by
    cases a with
    | true => exact h1 rfl σ H1 Q (E.ext e1) fun v H2 a e2 d z => c v H2 a (e1.trans e2) d z
    | false => exact c _ H1 false e1 rfl (h2 rfl)⟩
theorem ev_orV {k : Bool → Prop} (h : EvK W ta Γ fun a : Bool => (a = true → k true) ∧ (a = false → EvK W tb Γ k)) : EvK W (tOrV ta tb) Γ k := fun σ H Q E c =>
  h σ H _ E fun x H1 a e1 d1 ⟨h1, h2⟩ => ⟨a, d1, by
    cases a with
    | true => exact c _ H1 true e1 rfl (h1 rfl)
    | false => exact h2 rfl σ H1 Q (E.ext e1) fun v H2 a e2 d z => c v H2 a (e1.trans e2) d z⟩
theorem ev_notV {k : Bool → Prop} (h : EvK W ta Γ fun a : Bool => k (!a)) : EvK W (tNotV ta) Γ k := fun σ H Q E c =>
  h σ H _ E fun x H1 a e1 d1 h1 => ⟨a, d1, c _ H1 _ e1 rfl h1⟩
/-! tests -/
theorem et_test {k : Bool → Prop} (h : EvK W te Γ k) : EvT W (tTest te) Γ k := fun σ H Q E c => h σ H _ E fun v H1 b e1 d z => ⟨b, d, c H1 b e1 z⟩
theorem et_B {k : Bool → Prop} (h : EvK W te Γ k) : EvT W (tB te) Γ k := fun σ H Q E c => h σ H _ E fun v H1 b e1 d z => ⟨b, d, c H1 b e1 z⟩
theorem et_not {k : Bool → Prop} (h : EvT W tt Γ fun b => k (!b)) : EvT W (tNot tt) Γ k := fun σ H Q E c => h σ H _ E fun H1 b e1 z => c H1 _ e1 z
theorem et_and {k : Bool → Prop} (h : EvT W tt Γ fun a => (a = true → EvT W tu Γ k) ∧ (a = false → k false)) : EvT W (tAnd tt tu) Γ k := fun σ H Q E c =>
  h σ H _ E fun H1 a e1 ⟨h1, h2⟩ => by
    cases a with
    | true => exact h1 rfl σ H1 Q (E.ext e1) fun H2 b e2 z => c H2 b (e1.trans e2) z
    | false => exact c H1 false e1 (h2 rfl)
theorem et_or {k : Bool → Prop} (h : EvT W tt Γ fun a => (a = true → k true) ∧ (a = false → EvT W tu Γ k)) : EvT W (tOr tt tu) Γ k := fun σ H Q E c =>
  h σ H _ E fun H1 a e1 ⟨h1, h2⟩ => by
    cases a with
    | true => exact c H1 true e1 (h1 rfl)
    | false => exact h2 rfl σ H1 Q (E.ext e1) fun H2 b e2 z => c H2 b (e1.trans e2) z
theorem et_yes {k : Bool → Prop} (q : k true) : EvT W tYes Γ k := fun σ H Q E c => c H true (Ext.refl E.ok) q
/-! arguments -/
theorem ea_nil {k : List Ty → Prop} (q : k []) : EvA W tNil Γ k := fun σ H Q E c => c [] H [] (Ext.refl E.ok) .nil q
theorem ea_cons {α : Type} {rα : Rep α} {tr : TA} {k : List Ty → Prop} (h : EvK W te Γ fun a : α => EvA W tr Γ fun ts => k (T a :: ts)) : EvA W (tCons te tr) Γ k := fun σ H Q E c =>
  h σ H _ E fun v H1 a e1 d h1 => h1 σ H1 _ (E.ext e1) fun vs H2 ts e2 ds z => c (v :: vs) H2 _ (e1.trans e2) (.cons (Ty.mono (t := T a) e2.keep d) ds) z
/-! tuples, lists -/
theorem ev_tup2 {α β : Type} {rα : Rep α} {rβ : Rep β} {k : α × β → Prop} (h : EvK W ta Γ fun a : α => EvK W tb Γ fun b : β => k (a, b)) : EvK W (tTup (tCons ta (tCons tb tNil))) Γ k := fun σ H Q E c =>
  h σ H _ E fun x H1 a e1 d1 h1 => h1 σ H1 _ (E.ext e1) fun y H2 b e2 d2 z => ⟨by show 2 ≤ sizeLine; decide, fun p hp =>
    have e3 := Ext.new (o := .tup [x, y]) e2.ok hp
    c _ _ (a, b) ((e1.trans e2).trans e3) ⟨p, x, y, rfl, Tq.new (fresh_mu e2.ok hp) upd_same, Rep.mono (e2.trans e3).keep d1, Rep.mono e3.keep d2⟩ z⟩
theorem ev_tup3 {α β γ : Type} {rα : Rep α} {rβ : Rep β} {rγ : Rep γ} {k : T3 α β γ → Prop} (h : EvK W ta Γ fun a : α => EvK W tb Γ fun b : β => EvK W tc Γ fun c : γ => k ⟨a, b, c⟩) : EvK W (tTup (tCons ta (tCons tb (tCons tc tNil)))) Γ k := fun σ H Q E c =>
  h σ H _ E fun x H1 a e1 d1 h1 => h1 σ H1 _ (E.ext e1) fun y H2 b e2 d2 h2 => h2 σ H2 _ ((E.ext e1).ext e2) fun u H3 b3 e3 d3 z => ⟨by show 3 ≤ sizeLine; decide, fun p hp =>
    have e4 := Ext.new (o := .tup [x, y, u]) e3.ok hp
    c _ _ ⟨a, b, b3⟩ (((e1.trans e2).trans e3).trans e4) ⟨p, x, y, u, rfl, Tq.new (fresh_mu e3.ok hp) upd_same, Rep.mono ((e2.trans e3).trans e4).keep d1, Rep.mono (e3.trans e4).keep d2, Rep.mono e4.keep d3⟩ z⟩
/-- items of a display, all of one kind -/
def EvL {α : Type} [Rep α] (W : Wd) (ta : TA) (Γ : Gam) (k : List α → Prop) : Prop :=
  ∀ σ H (Q : List V → Hp → Prop), GOk W H σ Γ → (∀ vs H' as, Ext W H H' → Dl (den W H') vs as → k as → Q vs H') → ta σ H Q
theorem el_nil {α : Type} {rα : Rep α} {k : List α → Prop} (q : k []) : EvL W tNil Γ k := fun σ H Q E c => c [] H [] (Ext.refl E.ok) .nil q
theorem el_cons {α : Type} {rα : Rep α} {tr : TA} {k : List α → Prop} (h : EvK W te Γ fun a : α => EvL W tr Γ fun as => k (a :: as)) : EvL W (tCons te tr) Γ k := fun σ H Q E c =>
  h σ H _ E fun v H1 a e1 d h1 => h1 σ H1 _ (E.ext e1) fun vs H2 as e2 ds z => c (v :: vs) H2 _ (e1.trans e2) (.cons (Rep.mono e2.keep d) ds) z
theorem ev_lst {α : Type} {rα : Rep α} {t : TA} {k : List α → Prop} (h : EvL W t Γ fun as => as.length ≤ 100000 ∧ k as) : EvK W (tLst t) Γ k := fun σ H Q E c =>
  h σ H _ E fun vs H1 as e1 ds ⟨hl, z⟩ => ⟨Nat.le_trans (by rw [ds.length]; exact hl) (by decide : 100000 ≤ sizeLine), fun p hp =>
    have e2 := Ext.new (o := .lst vs) e1.ok hp
    c _ _ as (e1.trans e2) ⟨p, vs, rfl, Lq.new (fresh_mu e1.ok hp) upd_same, ds.imp fun _ _ d => Rep.mono e2.keep d⟩ z⟩
end

/-! comparisons of plain data, deep -/
class Dat (α : Type) [Rep α] where
  toD : α → PyData
  dp : ∀ {W : Wc} {H : Hp} {v : V} {a : α}, den W H v a → Dp W.B.K H v (toD a)
  dep : Nat
  ddep : ∀ a : α, (toD a).depth ≤ dep
  inj : ∀ a b : α, PyData.eqv (toD a) (toD b) = true ↔ a = b
  good : α → Prop
  gshp : ∀ a : α, good a → (toD a).canLay0 = true

instance : Dat Int := ⟨fun i => .int i, fun h => by cases h; exact .int _, 0, fun _ => Nat.le_refl 0, fun a b => by show (a == b) = true ↔ a = b; exact beq_iff_eq, fun _ => True, fun _ _ => rfl⟩
instance : Dat Bool := ⟨fun i => .bool i, fun h => by cases h; exact .bl _, 0, fun _ => Nat.le_refl 0, fun a b => by show (a == b) = true ↔ a = b; exact beq_iff_eq, fun _ => True, fun _ _ => rfl⟩
instance : Dat Str := ⟨fun i => .str i, fun h => by cases h; exact .str _, 0, fun _ => Nat.le_refl 0, fun a b => by show (a == b) = true ↔ a = b; exact beq_iff_eq, fun x => (PyData.str x).canLay0 = true, fun _ h => h⟩
instance : Dat Unit := ⟨fun _ => .none, fun h => by cases h; exact .non, 0, fun _ => Nat.le_refl 0, fun a b => ⟨fun _ => rfl, fun _ => rfl⟩, fun _ => True, fun _ _ => rfl⟩
theorem eqv2 (a b c d : PyData) : PyData.eqv (.tuple [a, b]) (.tuple [c, d]) = (PyData.eqv a c && PyData.eqv b d) := by
  show (PyData.eqv a c && (PyData.eqv b d && true)) = _
  rw [Bool.and_true]
theorem eqv3 (a b c d e f : PyData) : PyData.eqv (.tuple [a, b, e]) (.tuple [c, d, f]) = (PyData.eqv a c && (PyData.eqv b d && PyData.eqv e f)) := by
  show (PyData.eqv a c && (PyData.eqv b d && (PyData.eqv e f && true))) = _
  rw [Bool.and_true]
instance {α β : Type} [Rep α] [Rep β] [Dat α] [Dat β] : Dat (α × β) where
  toD := fun x => .tuple [Dat.toD x.1, Dat.toD x.2]
  dp := fun ⟨p, x, y, hv, s, h1, h2⟩ => by
    subst hv
    exact .tup s.sq (.cons (Dat.dp h1) (.cons (Dat.dp h2) .nil))
  dep := max (Dat.dep α) (Dat.dep β) + 1
  ddep := fun x => by
    have h1 := Dat.ddep x.1
    have h2 := Dat.ddep x.2
    show max (Dat.toD x.1).depth (max (Dat.toD x.2).depth 0) + 1 ≤ _
    omega
  inj := fun x y => by
    rw [eqv2, Bool.and_eq_true, Dat.inj, Dat.inj]
    exact ⟨fun h => Prod.ext h.1 h.2, fun h => by rw [h]; exact ⟨rfl, rfl⟩⟩
  good := fun x => Dat.good x.1 ∧ Dat.good x.2
  gshp := fun x h => by
    have h1 := Dat.gshp _ h.1
    have h2 := Dat.gshp _ h.2
    show ((Dat.toD x.1).canLay0 && ((Dat.toD x.2).canLay0 && true)) = true
    rw [h1, h2]
    rfl
instance {α β γ : Type} [Rep α] [Rep β] [Rep γ] [Dat α] [Dat β] [Dat γ] : Dat (T3 α β γ) where
  toD := fun x => .tuple [Dat.toD x.a, Dat.toD x.b, Dat.toD x.c]
  dp := fun ⟨p, x, y, z, hv, s, h1, h2, h3⟩ => by
    subst hv
    exact .tup s.sq (.cons (Dat.dp h1) (.cons (Dat.dp h2) (.cons (Dat.dp h3) .nil)))
  dep := max (Dat.dep α) (max (Dat.dep β) (Dat.dep γ)) + 1
  ddep := fun x => by
    have h1 := Dat.ddep x.a
    have h2 := Dat.ddep x.b
    have h3 := Dat.ddep x.c
    show max (Dat.toD x.a).depth (max (Dat.toD x.b).depth (max (Dat.toD x.c).depth 0)) + 1 ≤ _
    omega
  inj := fun x y => by
    rw [eqv3, Bool.and_eq_true, Bool.and_eq_true, Dat.inj, Dat.inj, Dat.inj]
    cases x; cases y
    exact ⟨fun h => by obtain ⟨h1, h2, h3⟩ := h; cases h1; cases h2; cases h3; rfl, fun h => by cases h; exact ⟨rfl, rfl, rfl⟩⟩
  good := fun x => Dat.good x.a ∧ Dat.good x.b ∧ Dat.good x.c
  gshp := fun x h => by
    have h1 := Dat.gshp _ h.1
    have h2 := Dat.gshp _ h.2.1
    have h3 := Dat.gshp _ h.2.2
    show ((Dat.toD x.a).canLay0 && ((Dat.toD x.b).canLay0 && ((Dat.toD x.c).canLay0 && true))) = true
    rw [h1, h2, h3]
    rfl
theorem dpAll {α : Type} [Rep α] [Dat α] {W : Wc} {H : Hp} : ∀ {vs : List V} {as : List α}, Dl (den W H) vs as → DpAll W.B.K H vs (as.map Dat.toD)
  | _, _, .nil => .nil
  | _, _, .cons x y => .cons (Dat.dp x) (dpAll y)
theorem depAll {α : Type} [Rep α] [Dat α] : ∀ as : List α, PyData.depthAll (as.map Dat.toD) ≤ Dat.dep α
  | [] => Nat.zero_le _
  | a :: r => by
    have h1 := Dat.ddep a
    have h2 := depAll r
    show max (Dat.toD a).depth (PyData.depthAll (r.map Dat.toD)) ≤ _
    omega
theorem injAll {α : Type} [Rep α] [Dat α] : ∀ as bs : List α, PyData.eqvAll (as.map Dat.toD) (bs.map Dat.toD) = true ↔ as = bs
  | [], [] => ⟨fun _ => rfl, fun _ => rfl⟩
  | [], _ :: _ => ⟨fun h => Bool.noConfusion h, fun h => nomatch h⟩
  | _ :: _, [] => ⟨fun h => Bool.noConfusion h, fun h => nomatch h⟩
  | a :: r, b :: s => by
    show (PyData.eqv (Dat.toD a) (Dat.toD b) && PyData.eqvAll (r.map Dat.toD) (s.map Dat.toD)) = true ↔ _
    rw [Bool.and_eq_true, Dat.inj, injAll r s]
    exact ⟨fun h => by rw [h.1, h.2], fun h => by injection h with h1 h2; exact ⟨h1, h2⟩⟩
theorem shpAll {α : Type} [Rep α] [Dat α] : ∀ as : List α, (∀ a ∈ as, Dat.good a) → PyData.canLayAll0 (as.map Dat.toD) = true
  | [], _ => rfl
  | a :: r, h => by
    show ((Dat.toD a).canLay0 && PyData.canLayAll0 (r.map Dat.toD)) = true
    rw [Dat.gshp _ (h a List.mem_cons_self), shpAll r fun x hx => h x (List.mem_cons_of_mem _ hx)]
    rfl
instance {α : Type} [Rep α] [Dat α] : Dat (List α) where
  toD := fun x => .list (x.map Dat.toD)
  dp := fun ⟨p, vs, hv, s, h⟩ => by
    subst hv
    exact .lst s.sq (dpAll h)
  dep := Dat.dep α + 1
  ddep := fun x => Nat.succ_le_succ (depAll x)
  inj := fun x y => injAll x y
  good := fun x => ∀ a ∈ x, Dat.good a
  gshp := fun x h => shpAll x h

section
variable {W : Wd} {Γ : Gam} {ta tb tc te : TE} {tt tu : TT}
theorem shaped_of {α : Type} [Rep α] [Dat α] {a : α} (g : Dat.good a) (h : Dat.dep α ≤ 64) : SeqAt.shaped (Dat.toD a) = true := by
  unfold SeqAt.shaped
  rw [Dat.gshp a g, decide_eq_true (Nat.le_trans (Dat.ddep a) h)]
  rfl
theorem ev_eqD2 {α β : Type} {rα : Rep α} {rβ : Rep β} {dα : Dat α} {dβ : Dat β} {K : PySem.W.Frag} {k : Bool → Prop} (hK : W.B.K = K) (hd1 : Dat.dep α ≤ 64) (hd2 : Dat.dep β ≤ 64)
    (h : EvK W ta Γ fun a : α => EvK W tb Γ fun b : β => (Dat.good a ∧ Dat.good b) ∧ k (PyData.eqv (Dat.toD a) (Dat.toD b))) : EvK W (tOp (rEqD K) ta tb) Γ k := by
  subst hK
  exact ev_two (h.imp fun a ha => ha.imp fun b hb x y H Q o dx dy c => ⟨_, _, Dat.dp dx, Dat.dp dy, shaped_of hb.1.1 hd1, shaped_of hb.1.2 hd2, c _ H _ (Ext.refl o) rfl hb.2⟩)
theorem ev_neD2 {α β : Type} {rα : Rep α} {rβ : Rep β} {dα : Dat α} {dβ : Dat β} {K : PySem.W.Frag} {k : Bool → Prop} (hK : W.B.K = K) (hd1 : Dat.dep α ≤ 64) (hd2 : Dat.dep β ≤ 64)
    (h : EvK W ta Γ fun a : α => EvK W tb Γ fun b : β => (Dat.good a ∧ Dat.good b) ∧ k (!PyData.eqv (Dat.toD a) (Dat.toD b))) : EvK W (tOp (rNeD K) ta tb) Γ k := by
  subst hK
  exact ev_two (h.imp fun a ha => ha.imp fun b hb x y H Q o dx dy c => ⟨_, _, Dat.dp dx, Dat.dp dy, shaped_of hb.1.1 hd1, shaped_of hb.1.2 hd2, c _ H _ (Ext.refl o) rfl hb.2⟩)
theorem eqv_dec {α : Type} [Rep α] [Dat α] [DecidableEq α] (a b : α) : PyData.eqv (Dat.toD a) (Dat.toD b) = decide (a = b) := by
  by_cases e : a = b
  · rw [decide_eq_true e]; exact (Dat.inj a b).mpr e
  · rw [decide_eq_false e]
    cases q : PyData.eqv (Dat.toD a) (Dat.toD b) with
    | false => rfl
    | true => exact absurd ((Dat.inj a b).mp q) e
theorem ev_eqD {α : Type} {rα : Rep α} {dα : Dat α} {_ : DecidableEq α} {K : PySem.W.Frag} {k : Bool → Prop} (hK : W.B.K = K) (hd1 : Dat.dep α ≤ 64)
    (h : EvK W ta Γ fun a : α => EvK W tb Γ fun b : α => (Dat.good a ∧ Dat.good b) ∧ k (decide (a = b))) : EvK W (tOp (rEqD K) ta tb) Γ k :=
  ev_eqD2 hK hd1 hd1 (h.imp fun a ha => ha.imp fun b hb => ⟨hb.1, by rw [eqv_dec]; exact hb.2⟩)
theorem ev_neD {α : Type} {rα : Rep α} {dα : Dat α} {_ : DecidableEq α} {K : PySem.W.Frag} {k : Bool → Prop} (hK : W.B.K = K) (hd1 : Dat.dep α ≤ 64)
    (h : EvK W ta Γ fun a : α => EvK W tb Γ fun b : α => (Dat.good a ∧ Dat.good b) ∧ k (!decide (a = b))) : EvK W (tOp (rNeD K) ta tb) Γ k :=
  ev_neD2 hK hd1 hd1 (h.imp fun a ha => ha.imp fun b hb => ⟨hb.1, by rw [eqv_dec]; exact hb.2⟩)
/-! items -/
theorem ev_ixL {α : Type} {rα : Rep α} {K : PySem.W.Frag} {k : α → Prop} (hK : W.B.K = K) (h : EvK W ta Γ fun as : List α => EvK W tb Γ fun i : Int => ∃ a, atI as i = some a ∧ k a) : EvK W (tOp (rIxL K) ta tb) Γ k := by
  subst hK
  refine ev_two (h.imp fun as ha => ha.imp fun i ⟨a, hi, z⟩ x y H Q o dx dy c => ?_)
  obtain ⟨p, vs, rfl, hp, hd⟩ := dx
  have e : ∃ v, atI vs i = some v ∧ den W H v a := by
    unfold atI at hi ⊢
    rw [hd.length]
    cases q : ixN as.length i with
    | none => rw [q] at hi; cases hi
    | some j =>
      rw [q, Option.bind_some] at hi
      rw [Option.bind_some]
      exact hd.at' hi
  obtain ⟨v, hv, dv⟩ := e
  exact ⟨p, vs, i, v, rfl, dy, hp.sq, hv, c _ H a (Ext.refl o) dv z⟩
theorem ev_ixT0 {α β : Type} {rα : Rep α} {rβ : Rep β} {K : PySem.W.Frag} {k : α → Prop} (hK : W.B.K = K) (h : EvK W ta Γ fun p : α × β => k p.1) : EvK W (tOp (rIxT K) ta (tC (.int 0))) Γ k := by
  subst hK
  refine fun σ H Q E c => h σ H _ E fun v H1 a e1 ⟨p, x, y, hv, s, d1, d2⟩ z => ?_
  exact ⟨p, _, 0, x, hv, rfl, s.sq, rfl, c _ H1 _ e1 d1 z⟩
theorem ev_ixT1 {α β : Type} {rα : Rep α} {rβ : Rep β} {K : PySem.W.Frag} {k : β → Prop} (hK : W.B.K = K) (h : EvK W ta Γ fun p : α × β => k p.2) : EvK W (tOp (rIxT K) ta (tC (.int 1))) Γ k := by
  subst hK
  refine fun σ H Q E c => h σ H _ E fun v H1 a e1 ⟨p, x, y, hv, s, d1, d2⟩ z => ?_
  exact ⟨p, _, 1, y, hv, rfl, s.sq, rfl, c _ H1 _ e1 d2 z⟩
/-! list + list, len -/
theorem ev_cat {α : Type} {rα : Rep α} {k : List α → Prop} (h : EvK W ta Γ fun as : List α => EvK W tb Γ fun bs : List α => as.length + bs.length ≤ 100000 ∧ k (as ++ bs)) : EvK W (tOp rCat ta tb) Γ k := by
  refine ev_two (h.imp fun as ha => ha.imp fun bs ⟨hl, z⟩ x y H Q o dx dy c => ?_)
  obtain ⟨p, vs, rfl, hp, hd⟩ := dx
  obtain ⟨q, ws, rfl, hq, hd2⟩ := dy
  refine ⟨p, q, vs, ws, rfl, rfl, hp.2, hq.2, Nat.le_trans (by rw [hd.length, hd2.length]; exact hl) (by decide : 100000 ≤ sizeLine), fun l hl => ?_⟩
  have e := Ext.new (o := .lst (vs ++ ws)) o hl
  exact c _ _ _ e ⟨l, _, rfl, Lq.new (fresh_mu o hl) upd_same, (hd.append hd2).imp fun _ _ d => Rep.mono e.keep d⟩ z
def rLenS (K : PySem.W.Frag) : List V → Hp → VK → Prop := fun xs H Q => ∃ p ys, xs = [.ref p] ∧ (SqL K H p ys ∨ SqT K H p ys) ∧ Q (.int ys.length) H
theorem ev_len {α : Type} {rα : Rep α} {K : PySem.W.Frag} {k : Int → Prop} (hK : W.B.K = K) (h : EvK W te Γ fun as : List α => k (as.length : Int)) : EvK W (tCB (fun xs H Q => ∃ p ys, xs = [.ref p] ∧ (SqL K H p ys ∨ SqT K H p ys) ∧ Q (.int ys.length) H) (tCons te tNil)) Γ k := by
  subst hK
  refine fun σ H Q E c => h σ H _ E fun v H1 as e1 ⟨p, vs, hv, hp, hd⟩ z => ?_
  exact ⟨p, vs, by rw [hv], .inl hp.sq, c _ H1 _ e1 (congrArg (fun n : Nat => V.int n) hd.length) z⟩
/-- int(x) of an int -/
theorem ev_intI {k : Int → Prop} (h : EvK W te Γ fun i : Int => k i) : EvK W (tCB (fun xs H Q => (∃ i, xs = [.int i] ∧ Q (.int i) H) ∨ ∃ k, xs = [.bl k] ∧ Q (.int (if k then 1 else 0)) H) (tCons te tNil)) Γ k :=
  fun σ H Q E c => h σ H _ E fun v H1 i e1 d z => .inl ⟨i, congrArg (fun x => [x]) d, c _ H1 i e1 rfl z⟩
/-- a chain of two comparisons of ints -/
theorem ev_chain {f g : Int → Int → Bool} {k : Bool → Prop} (h : EvK W ta Γ fun i : Int => EvK W tb Γ fun j : Int => (f i j = true → EvK W tc Γ fun l : Int => k (g j l)) ∧ (f i j = false → k false)) :
    EvK W (tChain (rI0 fun i j => .bl (f i j)) (rI0 fun i j => .bl (g i j)) ta tb tc) Γ k := by
  refine fun σ H Q E c => h σ H _ E fun x H1 i e1 d1 h1 => h1 σ H1 _ (E.ext e1) fun y H2 j e2 d2 h2 => ?_
  refine ⟨i, j, d1, d2, f i j, rfl, ?_⟩
  by_cases q : f i j = true
  · rw [if_pos q]
    exact h2.1 q σ H2 _ ((E.ext e1).ext e2) fun z H3 l e3 d3 h3 => ⟨j, l, d2, d3, c _ H3 _ ((e1.trans e2).trans e3) rfl h3⟩
  · rw [if_neg q]
    exact c _ H2 _ (e1.trans e2) rfl (h2.2 (by simpa using q))
end

/-! ### targets, statements -/
/-- js: the slots that the target sets -/
def Sm (js : List Nat) (σ σ' : St) : Prop := σ'.length = σ.length ∧ ∀ i : Nat, i ∉ js → σ'[i]? = σ[i]?
def Tj {α : Type} [Rep α] (W : Wd) (js : List Nat) (g : TG) (Γ : Gam) (a : α) (k : Gam → Prop) : Prop :=
  ∀ σ H v (Q : St → Hp → Prop), GOk W H σ Γ → den W H v a → (∀ σ' Γ', GOk W H σ' Γ' → Sm js σ σ' → k Γ' → Q σ' H) → g v σ H Q
abbrev Tg {α : Type} [Rep α] (W : Wd) (g : TG) (Γ : Gam) (a : α) (k : Gam → Prop) : Prop := ∃ js, Tj W js g Γ a k
structure Po where
  nx : Gam → Prop
  rt : Ty → Prop
  bk : Gam → Prop := fun _ => False
  ct : Gam → Prop := fun _ => False
structure EOk (W : Wd) (H : Hp) (D : Ends) (R : Po) : Prop where
  nx : ∀ σ' H' Γ', Ext W H H' → GOk W H' σ' Γ' → R.nx Γ' → D.nx σ' H'
  rt : ∀ v H' (t : Ty), Ext W H H' → t.den W H' v → R.rt t → D.rt v H'
  bk : ∀ σ' H' Γ', Ext W H H' → GOk W H' σ' Γ' → R.bk Γ' → D.bk σ' H'
  ct : ∀ σ' H' Γ', Ext W H H' → GOk W H' σ' Γ' → R.ct Γ' → D.ct σ' H'
theorem EOk.ext {W : Wd} {H H1 : Hp} {D : Ends} {R : Po} (h : EOk W H D R) (e : Ext W H H1) : EOk W H1 D R :=
  ⟨fun a b c d => h.nx a b c (e.trans d), fun a b c d => h.rt a b c (e.trans d), fun a b c d => h.bk a b c (e.trans d), fun a b c d => h.ct a b c (e.trans d)⟩
def Sx (W : Wd) (t : TS) (Γ : Gam) (R : Po) : Prop := ∀ D σ H, GOk W H σ Γ → EOk W H D R → t D σ H
section
variable {W : Wd} {Γ : Gam} {ta tb tc te : TE} {tt : TT} {t u : TS} {R : Po} {g : TG}
theorem tj_name {α : Type} {rα : Rep α} {i : Nat} {a : α} {k : Gam → Prop} (q : k (Γ.set i (some (T a)))) : Tj W [i] (gName i) Γ a k := fun σ H v Q E d c =>
  c _ _ (E.set i (t := T a) d) ⟨List.length_set, fun j hj => List.getElem?_set_ne (fun z => hj (by rw [z]; exact List.mem_singleton.mpr rfl))⟩ q
theorem tj_tup2 {α β : Type} {rα : Rep α} {rβ : Rep β} {K : PySem.W.Frag} {g1 g2 : TG} {j1 j2 : List Nat} {a : α × β} {k : Gam → Prop} (hK : W.B.K = K) (q : Tj W j1 g1 Γ a.1 fun Γ1 => Tj W j2 g2 Γ1 a.2 k) : Tj W (j1 ++ j2) (gTup K 2 (gCons g1 (gCons g2 gNil))) Γ a k := by
  subst hK
  refine fun σ H v Q E ⟨p, x, y, hv, s, d1, d2⟩ c => ⟨p, [x, y], hv, s.sq, rfl, ?_⟩
  refine ⟨x, [y], rfl, ?_⟩
  refine q σ H x _ E d1 fun σ1 Γ1 E1 m1 q1 => ?_
  exact ⟨y, [], rfl, q1 σ1 H y _ E1 d2 fun σ2 Γ2 E2 m2 q2 => ⟨rfl, c σ2 Γ2 E2 ⟨m2.1.trans m1.1, fun i hi => (m2.2 i fun z => hi (List.mem_append_right _ z)).trans (m1.2 i fun z => hi (List.mem_append_left _ z))⟩ q2⟩⟩
theorem tj_tup3 {α β γ : Type} {rα : Rep α} {rβ : Rep β} {rγ : Rep γ} {K : PySem.W.Frag} {g1 g2 g3 : TG} {j1 j2 j3 : List Nat} {a : T3 α β γ} {k : Gam → Prop} (hK : W.B.K = K) (q : Tj W j1 g1 Γ a.a fun Γ1 => Tj W j2 g2 Γ1 a.b fun Γ2 => Tj W j3 g3 Γ2 a.c k) : Tj W (j1 ++ (j2 ++ j3)) (gTup K 3 (gCons g1 (gCons g2 (gCons g3 gNil)))) Γ a k := by
  subst hK
  refine fun σ H v Q E ⟨p, x, y, z, hv, s, d1, d2, d3⟩ c => ⟨p, [x, y, z], hv, s.sq, rfl, ?_⟩
  refine ⟨x, [y, z], rfl, ?_⟩
  refine q σ H x _ E d1 fun σ1 Γ1 E1 m1 q1 => ⟨y, [z], rfl, ?_⟩
  refine q1 σ1 H y _ E1 d2 fun σ2 Γ2 E2 m2 q2 => ⟨z, [], rfl, ?_⟩
  exact q2 σ2 H z _ E2 d3 fun σ3 Γ3 E3 m3 q3 => ⟨rfl, c σ3 Γ3 E3 ⟨(m3.1.trans m2.1).trans m1.1, fun i hi => ((m3.2 i fun z => hi (List.mem_append_right _ (List.mem_append_right _ z))).trans (m2.2 i fun z => hi (List.mem_append_right _ (List.mem_append_left _ z)))).trans (m1.2 i fun z => hi (List.mem_append_left _ z))⟩ q3⟩
theorem tg_name {α : Type} {rα : Rep α} {i : Nat} {a : α} {k : Gam → Prop} (q : k (Γ.set i (some (T a)))) : Tg W (gName i) Γ a k := ⟨_, tj_name q⟩
theorem tg_of {α : Type} {rα : Rep α} {js : List Nat} {a : α} {k : Gam → Prop} (q : Tj W js g Γ a k) : Tg W g Γ a k := ⟨_, q⟩
theorem sx_seq (h : Sx W t Γ { R with nx := fun Γ' => Sx W u Γ' R }) : Sx W (tSeq t u) Γ R := fun D σ H E O =>
  h _ σ H E ⟨fun σ' H' Γ' e G q => q D σ' H' G (O.ext e), O.rt, O.bk, O.ct⟩
theorem sx_next (q : R.nx Γ) : Sx W tNext Γ R := fun D σ H E O => O.nx σ H Γ (Ext.refl E.ok) E q
theorem sx_break (q : R.bk Γ) : Sx W tBreak Γ R := fun D σ H E O => O.bk σ H Γ (Ext.refl E.ok) E q
theorem sx_cont (q : R.ct Γ) : Sx W tCont Γ R := fun D σ H E O => O.ct σ H Γ (Ext.refl E.ok) E q
theorem sx_asg {α : Type} {rα : Rep α} (h : EvK W te Γ fun a : α => Tg W g Γ a R.nx) : Sx W (tAsg te g) Γ R := fun D σ H E O =>
  h σ H _ E fun v H1 a e1 d ⟨_, h1⟩ => h1 σ H1 v _ (E.ext e1) d fun σ' Γ' G _ q => O.nx σ' H1 Γ' e1 G q
theorem sx_set {α : Type} {rα : Rep α} {i : Nat} (h : EvK W te Γ fun a : α => R.nx (Γ.set i (some (T a)))) : Sx W (tAsg te (gName i)) Γ R := sx_asg (h.imp fun a q => tg_name q)
theorem sx_drop {α : Type} {rα : Rep α} (h : EvK W te Γ fun _ : α => R.nx Γ) : Sx W (tDrop te) Γ R := fun D σ H E O =>
  h σ H _ E fun v H1 a e1 d q => O.nx σ H1 Γ e1 (E.ext e1) q
theorem sx_ret {α : Type} {rα : Rep α} (h : EvK W te Γ fun a : α => R.rt (T a)) : Sx W (tRet te) Γ R := fun D σ H E O =>
  h σ H _ E fun v H1 a e1 d q => O.rt v H1 (T a) e1 d q
theorem sx_retN (q : R.rt (T ())) : Sx W tRetN Γ R := fun D σ H E O => O.rt .non H (T ()) (Ext.refl E.ok) rfl q
theorem sx_if (h : EvT W tt Γ fun b => (b = true → Sx W t Γ R) ∧ (b = false → Sx W u Γ R)) : Sx W (tIfS tt t u) Γ R := fun D σ H E O =>
  h σ H _ E fun H1 b e1 ⟨h1, h2⟩ => by
    cases b with
    | true => exact h1 rfl D σ H1 (E.ext e1) (O.ext e1)
    | false => exact h2 rfl D σ H1 (E.ext e1) (O.ext e1)
/-- for x in a list -/
theorem sx_forL {α : Type} {rα : Rep α} {K : PySem.W.Frag} (hK : W.B.K = K) (h : EvK W te Γ fun as : List α => ∃ I : Nat → Gam → Prop, I 0 Γ ∧
      (∀ (i : Nat) (a : α) Γ', as[i]? = some a → I i Γ' → Tg W g Γ' a fun Γ1 => Sx W t Γ1 { R with nx := I (i + 1), ct := I (i + 1), bk := R.nx }) ∧ ∀ Γ', I as.length Γ' → R.nx Γ') : Sx W (tFor (iList K te) g t) Γ R := by
  subst hK
  refine fun D σ H E O => h σ H _ E fun v H1 as e1 ⟨p, vs, hv, hp, hd⟩ ⟨I, h0, hs, hl⟩ => ?_
  refine ⟨p, hv, ⟨vs, hp.sq⟩, for_list (K := W.B.K) (a := p) (xs := vs) (fun i σ' H' => Ext W H1 H' ∧ ∃ Γ', GOk W H' σ' Γ' ∧ I i Γ') ⟨Ext.refl e1.ok, Γ, E.ext e1, h0⟩ (fun i σ' H' _ ⟨e, _⟩ => (hp.mono e.keep).sq) ?_ ?_⟩
  · rintro i x σ' H' hx ⟨e, Γ', G, q⟩
    obtain ⟨a, ha, da⟩ := (hd.imp fun _ _ d => Rep.mono e.keep d).at hx
    obtain ⟨js, hj⟩ := hs i a Γ' ha q
    refine hj σ' H' x _ G da fun σ2 Γ2 G2 _ q2 => ?_
    exact q2 _ σ2 H' G2 ⟨fun σ3 H3 Γ3 e3 G3 q3 => ⟨e.trans e3, Γ3, G3, q3⟩, fun v3 H3 t3 e3 d3 q3 => O.rt v3 H3 t3 ((e1.trans e).trans e3) d3 q3,
      fun σ3 H3 Γ3 e3 G3 q3 => O.nx σ3 H3 Γ3 ((e1.trans e).trans e3) G3 q3, fun σ3 H3 Γ3 e3 G3 q3 => ⟨e.trans e3, Γ3, G3, q3⟩⟩
  · rintro σ' H' ⟨e, Γ', G, q⟩
    rw [hd.length] at q
    exact O.nx σ' H' Γ' (e1.trans e) G (hl Γ' q)
/-- for x in range(n) -/
theorem sx_forR {R : Po} (h : EvK W te Γ fun n : Int => (-(2 ^ 62) ≤ n ∧ n < 2 ^ 62) ∧ ∃ I : Nat → Gam → Prop, I 0 Γ ∧
      (∀ (i : Nat) Γ', i < n.toNat → I i Γ' → Tg W g Γ' (i : Int) fun Γ1 => Sx W t Γ1 { R with nx := I (i + 1), ct := I (i + 1), bk := R.nx }) ∧ ∀ Γ', I n.toNat Γ' → R.nx Γ') : Sx W (tFor (iRng1 (tCons te tNil)) g t) Γ R := by
  refine fun D σ H E O => h σ H _ E fun v H1 n e1 hv ⟨⟨b1, b2⟩, I, h0, hs, hl⟩ => ?_
  refine ⟨n, congrArg (fun x => [x]) hv, b1, b2, for_range (lo := 0) (n := n.toNat) (fun i σ' H' => Ext W H1 H' ∧ ∃ Γ', GOk W H' σ' Γ' ∧ I i Γ') ⟨Ext.refl e1.ok, Γ, E.ext e1, h0⟩ ?_ ?_⟩
  · rintro i σ' H' hi ⟨e, Γ', G, q⟩
    obtain ⟨js, hj⟩ := hs i Γ' hi q
    refine hj σ' H' _ _ G (by show V.int ((0 : Int) + i) = .int i; rw [Int.zero_add]) fun σ2 Γ2 G2 _ q2 => ?_
    exact q2 _ σ2 H' G2 ⟨fun σ3 H3 Γ3 e3 G3 q3 => ⟨e.trans e3, Γ3, G3, q3⟩, fun v3 H3 t3 e3 d3 q3 => O.rt v3 H3 t3 ((e1.trans e).trans e3) d3 q3,
      fun σ3 H3 Γ3 e3 G3 q3 => O.nx σ3 H3 Γ3 ((e1.trans e).trans e3) G3 q3, fun σ3 H3 Γ3 e3 G3 q3 => ⟨e.trans e3, Γ3, G3, q3⟩⟩
  · rintro σ' H' ⟨e, Γ', G, q⟩
    exact O.nx σ' H' Γ' (e1.trans e) G (hl Γ' q)
end

/-! ### comprehensions -/
theorem wipe_in {σ : St} {i : Nat} : ∀ {vs : List Nat}, i ∈ vs → i < σ.length → (wipe σ vs)[i]? = some none
  | j :: r, h, hl => by
    show ((wipe σ r).set j none)[i]? = some none
    by_cases e : j = i
    · subst e
      exact List.getElem?_set_self (by rw [wipe_length]; exact hl)
    · rw [List.getElem?_set_ne e]
      exact wipe_in ((List.mem_cons.mp h).resolve_left fun z => e z.symm) hl
theorem wipe_same {σ σ' : St} {vs js : List Nat} (h : Sm js (wipe σ vs) σ') (hs : ∀ j ∈ js, j ∈ vs) : wipe σ' vs = wipe σ vs := by
  have hl : σ'.length = σ.length := h.1.trans (wipe_length _ _)
  refine List.ext_getElem? fun i => ?_
  by_cases hi : i ∈ vs
  · by_cases hn : i < σ.length
    · rw [wipe_in hi hn, wipe_in hi (by rw [hl]; exact hn)]
    · rw [List.getElem?_eq_none (by rw [wipe_length, hl]; omega), List.getElem?_eq_none (by rw [wipe_length]; omega)]
  · rw [wipe_out hi, h.2 i fun z => hi (hs i z)]
section
variable {W : Wd} {Γ : Gam} {tl te : TE} {tt : TT} {g : TG}
/-- a turn of a comprehension: the item a; I holds of what is made so far -/
def LcTurn {α β : Type} [Rep α] [Rep β] (W : Wd) (g : TG) (tt : TT) (te : TE) (vs : List Nat) (Γ : Gam) (a : α) (no : Prop) (yes : β → Prop) : Prop :=
  ∃ js : List Nat, (js.all fun j => vs.contains j) = true ∧ Tj W js g (wipeE Γ vs) a fun Γ1 => EvT W tt Γ1 fun b => (b = true → EvK W te Γ1 yes) ∧ (b = false → no)
theorem lc_turn {α β : Type} {rα : Rep α} {rβ : Rep β} {vs : List Nat} {D : Addr} {H1 : Hp} {n : H1 D = none} {o1 : W.ok H1} {w1 : W.wish H1} {σ : St} {H' : Hp} {x : V} {a : α} {acc : List V} {bs : List β} {I : List β → Prop} {P : Hp → Prop}
    (t : LcTurn (W.plus D acc H1 n o1 w1) g tt te vs Γ a (I bs) fun y : β => I (bs ++ [y])) (G : GOk W H1 σ Γ) (e : Ext W H1 H') (hD : H' D = some (.lst acc)) (hb : Dl (den (W.toWc.plus D) H') acc bs) (da : den W H1 x a) (hz : acc.length < 100000)
    (fin : ∀ H2 acc2 bs2, Ext W H1 H2 → H2 D = some (.lst acc2) → Dl (den (W.toWc.plus D) H2) acc2 bs2 → acc2.length ≤ acc.length + 1 → I bs2 → P H2) :
    g x (wipe σ vs) H' fun σ2 H2 => wipe σ2 vs = wipe σ vs ∧ tt σ2 H2 fun b H3 => if b = true then te σ2 H3 fun y H4 => ∃ acc, H4 D = some (.lst acc) ∧ acc.length < sizeLine ∧ P (upd H4 D (.lst (acc ++ [y]))) else P H3 := by
  obtain ⟨js, hjs, t⟩ := t
  have nm : ¬ W.mu D := fresh_mu o1 n
  have kp : Kp (W.toWc.plus D) H1 H' := fun b o m z => e.keep b o (fun z => m (.inl z)) z
  have ok' : (W.plus D acc H1 n o1 w1).ok H' := ⟨e.ok, hD⟩
  have G' : GOk (W.plus D acc H1 n o1 w1) H' σ Γ := ⟨ok', fun b o m z => e.keep b o m z, fun i t h => by
    obtain ⟨v, h1, h2⟩ := G.at_ i t h
    exact ⟨v, h1, Ty.mono kp (t.r.grow D n h2)⟩, G.len⟩
  have back : ∀ H2, Ext (W.plus D acc H1 n o1 w1) H' H2 → Ext W H1 H2 := fun H2 e2 => ⟨fun b o m z => by
    have hb : b ≠ D := fun q => by subst q; rw [n] at z; cases z
    exact e2.keep b o (fun q => q.elim m hb) (e.keep b o m z), e2.ok.1⟩
  refine t (wipe σ vs) H' x _ (G'.wipe vs) (Rep.mono kp (Rep.grow D n da)) fun σ2 Γ2 G2 m2 q2 => ⟨?_, ?_⟩
  · exact wipe_same m2 fun j hj => by
      have := List.all_eq_true.mp hjs j hj
      simpa using this
  · refine q2 σ2 H' _ G2 fun H3 b e3 ⟨hy, hn⟩ => ?_
    have hD3 : H3 D = some (.lst acc) := e3.ok.2
    cases b with
    | false =>
      show P H3
      exact fin H3 acc bs (back H3 e3) hD3 (hb.imp fun _ _ d => Rep.mono e3.keep d) (Nat.le_succ _) (hn rfl)
    | true =>
      show te σ2 H3 _
      refine hy rfl σ2 H3 _ (G2.ext e3) fun y H4 b4 e4 d4 q4 => ?_
      have hD4 : H4 D = some (.lst acc) := e4.ok.2
      refine ⟨acc, hD4, Nat.lt_of_lt_of_le hz (by decide : 100000 ≤ sizeLine), ?_⟩
      have e5 := back H4 (e3.trans e4)
      have k5 : Kp (W.toWc.plus D) H4 (upd H4 D (.lst (acc ++ [y]))) := fun b o m z => by
        rw [upd_ne (fun q => m (.inr q))]
        exact z
      refine fin _ (acc ++ [y]) (bs ++ [b4]) ⟨fun b o m z => ?_, W.st _ _ _ e5.ok nm⟩ upd_same ?_ (by rw [List.length_append]; exact Nat.le_refl _) q4
      · rw [upd_ne (fun q => by subst q; rw [n] at z; cases z)]
        exact e5.keep b o m z
      · refine Dl.append (hb.imp fun _ _ d => Rep.mono k5 (Rep.mono (e3.trans e4).keep d)) (.cons (Rep.mono k5 d4) .nil)
/-- a new list: at p, not there before; its items do not lean on p -/
def EvF {β : Type} [Rep β] (W : Wd) (te : TE) (Γ : Gam) (k : List β → Prop) : Prop :=
  ∀ σ H (Q : VK), GOk W H σ Γ → (∀ p H' vs (bs : List β), H p = none → Ext W H H' → H' p = some (.lst vs) → Dl (den (W.toWc.plus p) H') vs bs → k bs → Q (.ref p) H') → te σ H Q
theorem fresh_back {W : Wd} {H H' : Hp} {p : Addr} (o : W.ok H') (e : Ext W H H') (h : H' p = none) : H p = none := by
  cases q : H p with
  | none => rfl
  | some u =>
    rw [e.keep p u (fresh_mu o h) q] at h
    cases h
theorem EvF.k {β : Type} {rβ : Rep β} {k : List β → Prop} (h : EvF W te Γ k) : EvK W te Γ k := fun σ H Q E c =>
  h σ H Q E fun p H' vs bs n e hp hb q => c (.ref p) H' bs e ⟨p, vs, rfl, Lq.new (fun m => by
    obtain ⟨o, z⟩ := W.live H p E.ok m
    rw [n] at z
    cases z) hp, hb.imp fun _ _ d => Rep.shrink p d⟩ q
/-- [te for g in a list if tt] -/
theorem evF_lc {α β : Type} {rα : Rep α} {rβ : Rep β} {K : PySem.W.Frag} {vs : List Nat} {k : List β → Prop} (hK : W.B.K = K)
    (h : EvK W tl Γ fun as : List α => as.length ≤ 100000 ∧ ∃ I : Nat → List β → Prop, I 0 [] ∧ (∀ W', Sub W W' → ∀ (i : Nat) (a : α) (bs : List β), as[i]? = some a → I i bs → LcTurn W' g tt te vs Γ a (I (i + 1) bs) fun y : β => I (i + 1) (bs ++ [y])) ∧ ∀ bs, I as.length bs → k bs) :
    EvF W (tLc (iList K tl) g tt te vs) Γ k := by
  subst hK
  refine fun σ H Q E c => h σ H _ E fun v H1 as e1 ⟨p, xs, hv, hp, hd⟩ ⟨hl, I, h0, hs, hf⟩ => ⟨p, hv, ⟨xs, hp.sq⟩, fun D n => ?_⟩
  have G1 := E.ext e1
  have eD : Ext W H1 (upd H1 D (.lst [])) := Ext.new e1.ok n
  refine lc_list (xs := xs) (fun i H' => Ext W H1 H' ∧ ∃ acc bs, H' D = some (.lst acc) ∧ Dl (den (W.toWc.plus D) H') acc bs ∧ acc.length ≤ i ∧ I i bs) ⟨eD, [], [], upd_same, .nil, Nat.le_refl _, h0⟩ (fun i H' _ ⟨e, _⟩ => (hp.mono e.keep).sq) ?_ ?_
  · rintro i x H' hx ⟨e, acc, bs, hD, hb, ha, q⟩
    obtain ⟨a, ea, da⟩ := hd.at hx
    have hil : i < as.length := (List.getElem?_eq_some_iff.mp ea).1
    exact lc_turn (I := I (i + 1)) (P := fun H' => Ext W H1 H' ∧ ∃ acc bs, H' D = some (.lst acc) ∧ Dl (den (W.toWc.plus D) H') acc bs ∧ acc.length ≤ i + 1 ∧ I (i + 1) bs) (hs _ (Sub.plus (n := n) (o1 := e1.ok) (w1 := G1.wish)) i a bs ea q) G1 e hD hb da (by omega) fun H2 acc2 bs2 e2 hD2 hb2 hl2 q2 => ⟨e2, acc2, bs2, hD2, hb2, by omega, q2⟩
  · rintro H' ⟨e, acc, bs, hD, hb, ha, q⟩
    rw [hd.length] at q
    exact c D H' acc bs (fresh_back e1.ok e1 n) (e1.trans e) hD hb (hf bs q)
theorem ev_lc {α β : Type} {rα : Rep α} {rβ : Rep β} {K : PySem.W.Frag} {vs : List Nat} {k : List β → Prop} (hK : W.B.K = K)
    (h : EvK W tl Γ fun as : List α => as.length ≤ 100000 ∧ ∃ I : Nat → List β → Prop, I 0 [] ∧ (∀ W', Sub W W' → ∀ (i : Nat) (a : α) (bs : List β), as[i]? = some a → I i bs → LcTurn W' g tt te vs Γ a (I (i + 1) bs) fun y : β => I (i + 1) (bs ++ [y])) ∧ ∀ bs, I as.length bs → k bs) :
    EvK W (tLc (iList K tl) g tt te vs) Γ k := (evF_lc hK h).k
/-- [te for g in range(n) if tt] -/
theorem evF_lcR {β : Type} {rβ : Rep β} {vs : List Nat} {k : List β → Prop}
    (h : EvK W tl Γ fun m : Int => m ≤ 100000 ∧ -100000 ≤ m ∧ ∃ I : Nat → List β → Prop, I 0 [] ∧ (∀ W', Sub W W' → ∀ (i : Nat) (bs : List β), i < m.toNat → I i bs → LcTurn W' g tt te vs Γ (i : Int) (I (i + 1) bs) fun y : β => I (i + 1) (bs ++ [y])) ∧ ∀ bs, I m.toNat bs → k bs) :
    EvF W (tLc (iRng1 (tCons tl tNil)) g tt te vs) Γ k := by
  refine fun σ H Q E c => h σ H _ E fun v H1 m e1 hv ⟨hl, hl2, I, h0, hs, hf⟩ => ⟨m, congrArg (fun x => [x]) hv, by omega, by omega, fun D n => ?_⟩
  have G1 := E.ext e1
  have eD : Ext W H1 (upd H1 D (.lst [])) := Ext.new e1.ok n
  refine lc_range (lo := 0) (n := m.toNat) (fun i H' => Ext W H1 H' ∧ ∃ acc bs, H' D = some (.lst acc) ∧ Dl (den (W.toWc.plus D) H') acc bs ∧ acc.length ≤ i ∧ I i bs) ⟨eD, [], [], upd_same, .nil, Nat.le_refl _, h0⟩ ?_ ?_
  · rintro i H' hi ⟨e, acc, bs, hD, hb, ha, q⟩
    exact lc_turn (I := I (i + 1)) (P := fun H' => Ext W H1 H' ∧ ∃ acc bs, H' D = some (.lst acc) ∧ Dl (den (W.toWc.plus D) H') acc bs ∧ acc.length ≤ i + 1 ∧ I (i + 1) bs) (hs _ (Sub.plus (n := n) (o1 := e1.ok) (w1 := G1.wish)) i bs hi q) G1 e hD hb (by show V.int ((0 : Int) + i) = .int i; rw [Int.zero_add]) (by omega) fun H2 acc2 bs2 e2 hD2 hb2 hl2 q2 => ⟨e2, acc2, bs2, hD2, hb2, by omega, q2⟩
  · rintro H' ⟨e, acc, bs, hD, hb, ha, q⟩
    exact c D H' acc bs (fresh_back e1.ok e1 n) (e1.trans e) hD hb (hf bs q)
theorem ev_lcR {β : Type} {rβ : Rep β} {vs : List Nat} {k : List β → Prop}
    (h : EvK W tl Γ fun m : Int => m ≤ 100000 ∧ -100000 ≤ m ∧ ∃ I : Nat → List β → Prop, I 0 [] ∧ (∀ W', Sub W W' → ∀ (i : Nat) (bs : List β), i < m.toNat → I i bs → LcTurn W' g tt te vs Γ (i : Int) (I (i + 1) bs) fun y : β => I (i + 1) (bs ++ [y])) ∧ ∀ bs, I m.toNat bs → k bs) :
    EvK W (tLc (iRng1 (tCons tl tNil)) g tt te vs) Γ k := (evF_lcR h).k
/-- a pure one -/
theorem ev_lcF {α β : Type} [rα : Rep α] [rβ : Rep β] {K : PySem.W.Frag} {vs : List Nat} {k : List β → Prop} (p : α → Bool) (f : α → β) (hK : W.B.K = K)
    (h : EvK W tl Γ fun as : List α => as.length ≤ 100000 ∧ (∀ W', Sub W W' → ∀ a ∈ as, LcTurn W' g tt te vs Γ a (p a = false) fun y : β => p a = true ∧ y = f a) ∧ k ((as.filter p).map f)) :
    EvK W (tLc (iList K tl) g tt te vs) Γ k := ev_lc hK (h.imp fun as ⟨hl, hs, q⟩ => ⟨hl, fun i bs => bs = ((as.take i).filter p).map f, by simp, fun W' s i a bs ha e => by
  have ht : as.take (i + 1) = as.take i ++ [a] := by
    rw [List.take_succ, ha]; rfl
  obtain ⟨js, h1, h2⟩ := hs W' s a (List.mem_of_getElem? ha)
  refine ⟨js, h1, fun σ H v Q E d c => h2 σ H v Q E d fun σ' Γ' G m q2 => c σ' Γ' G m ?_⟩
  intro σ2 H2 Q2 E2 c2
  refine q2 σ2 H2 Q2 E2 fun H3 b e3 ⟨hy, hn⟩ => c2 H3 b e3 ⟨fun hb => (hy hb).imp fun y ⟨hp, hyf⟩ => ?_, fun hb => ?_⟩
  · have e' : bs = ((as.take i).filter p).map f := e
    show bs ++ [y] = ((as.take (i + 1)).filter p).map f
    rw [ht, List.filter_append, List.map_append, ← e', List.filter_cons_of_pos hp, hyf]; rfl
  · have e' : bs = ((as.take i).filter p).map f := e
    show bs = ((as.take (i + 1)).filter p).map f
    rw [ht, List.filter_append, List.map_append, ← e', List.filter_cons_of_neg (by rw [hn hb]; exact Bool.false_ne_true)]; simp, fun bs e => by rw [e, List.take_length]; exact q⟩)
end

/-! ### defs: promises over plain data -/
/-- what a field of an error may hold -/
inductive Fv where
  | i (n : Int) | s (x : Str) | p (a b : Int) | l (xs : List Str) | no
def Fv.den (W : Wc) (H : Hp) (v : V) : Fv → Prop
  | .i n => Rep.dn W H v n
  | .s x => Rep.dn W H v x
  | .p a b => Rep.dn W H v (a, b)
  | .l xs => Rep.dn W H v xs
  | .no => v = .non
theorem Fv.mono {W : Wc} {H H' : Hp} {v : V} (e : Kp W H H') : ∀ {f : Fv}, f.den W H v → f.den W H' v
  | .i _, h => h
  | .s _, h => h
  | .p a b, h => Rep.mono (a := (a, b)) e h
  | .l xs, h => Rep.mono (a := xs) e h
  | .no, h => h
theorem Fv.grow {W : Wc} {H : Hp} {v : V} (D : Addr) (n : H D = none) : ∀ {f : Fv}, f.den W H v → f.den (W.plus D) H v
  | .i _, h => h
  | .s _, h => h
  | .p a b, h => Rep.grow (a := (a, b)) D n h
  | .l xs, h => Rep.grow (a := xs) D n h
  | .no, h => h
theorem Fv.shrink {W : Wc} {H : Hp} {v : V} (D : Addr) : ∀ {f : Fv}, f.den (W.plus D) H v → f.den W H v
  | .i _, h => h
  | .s _, h => h
  | .p a b, h => Rep.shrink (a := (a, b)) D h
  | .l xs, h => Rep.shrink (a := xs) D h
  | .no, h => h
/-- an error that leaves: its class by name, its fields -/
structure Xn where
  c : Cn
  fs : List (Str × Fv)
inductive DF (W : Wc) (H : Hp) : List (Str × V) → List (Str × Fv) → Prop
  | nil : DF W H [] []
  | cons {x : Str} {v : V} {t : Fv} {vs : List (Str × V)} {ts : List (Str × Fv)} : t.den W H v → DF W H vs ts → DF W H ((x, v) :: vs) ((x, t) :: ts)
theorem DF.imp {W W' : Wc} {H H' : Hp} (h : ∀ (v : V) (f : Fv), f.den W H v → f.den W' H' v) : ∀ {vs : List (Str × V)} {ts : List (Str × Fv)}, DF W H vs ts → DF W' H' vs ts
  | _, _, .nil => .nil
  | _, _, .cons x y => .cons (h _ _ x) (y.imp h)
theorem DF.at {W : Wc} {H : Hp} {f : Str} {t : Fv} : ∀ {vs : List (Str × V)} {ts : List (Str × Fv)}, DF W H vs ts → ts.lookup f = some t → ∃ v, vs.lookup f = some v ∧ t.den W H v
  | _, _, .nil, h => by cases h
  | _, _, .cons (x := x) (v := v) d r, h => by
    rw [List.lookup_cons] at h ⊢
    cases q : (f == x) with
    | true =>
      rw [q] at h
      cases h
      exact ⟨v, rfl, d⟩
    | false =>
      rw [q] at h
      exact DF.at r h
def xden (W : Wc) (H : Hp) (d : Option Addr) (fs : List (Str × Fv)) : Prop := (fs = [] ∧ d = none) ∨ ∃ dd vs, d = some dd ∧ ¬ W.mu dd ∧ H dd = some (.xd vs) ∧ DF W H vs fs
/-- an error in hand -/
structure Er where
  a : Addr
  d : Option Addr
  n : Xn
instance : Rep Er where
  dn := fun W H v e => v = .ref e.a ∧ xden W H e.d e.n.fs
  mono := fun k h => ⟨h.1, h.2.imp (fun h => h) fun ⟨dd, vs, h1, h2, h3, h4⟩ => ⟨dd, vs, h1, h2, k _ _ h2 h3, h4.imp fun _ _ z => Fv.mono k z⟩⟩
  grow := fun D n h => ⟨h.1, h.2.imp (fun h => h) fun ⟨dd, vs, h1, h2, h3, h4⟩ => ⟨dd, vs, h1, mu_grow n h2 h3, h3, h4.imp fun _ _ z => Fv.grow D n z⟩⟩
  shrink := fun D h => ⟨h.1, h.2.imp (fun h => h) fun ⟨dd, vs, h1, h2, h3, h4⟩ => ⟨dd, vs, h1, fun z => h2 (.inl z), h3, h4.imp fun _ _ z => Fv.shrink D z⟩⟩
def XOk (W : Wd) (H : Hp) (E : XK) (x : Xn → Prop) : Prop := ∀ n d H', Ext W H H' → xden W H' d n.fs → x n → E (.ref (W.B.cl n.c)) d H'
/-- P rt x ts: from the arguments ts to what is wished of the answer and of an error -/
abbrev PT := (Ty → Prop) → (Xn → Prop) → List Ty → Prop
def spG (B : Bs) (P : PT) : Sp := fun vs H Q E => ∃ (W : Wd) (ts : List Ty) (rt : Ty → Prop) (x : Xn → Prop), W.B = B ∧ W.ok H ∧ DT W H vs ts ∧ P rt x ts ∧ (∀ v H' (t : Ty), Ext W H H' → t.den W H' v → rt t → Q v H') ∧ XOk W H E x
def Wd.wth (W : Wd) (E : XK) (x : Xn → Prop) : Wd where
  toWc := W.toWc
  ok := W.ok
  live := W.live
  st := W.st
  wish := fun H => XOk W H E x
  wst := fun H H' k o w n d H2 e => w n d H2 ⟨fun a u m z => e.keep a u m (k a u m z), e.ok⟩
  hasbox := W.hasbox
  boxset := W.boxset
  boxmu := W.boxmu
  oke := W.oke
theorem Ext.wth {W : Wd} {E : XK} {x : Xn → Prop} {H H' : Hp} (e : Ext (W.wth E x) H H') : Ext W H H' := ⟨e.keep, e.ok⟩
theorem Ext.unwth {W : Wd} {E : XK} {x : Xn → Prop} {H H' : Hp} (e : Ext W H H') : Ext (W.wth E x) H H' := ⟨e.keep, e.ok⟩
theorem start_ok {W : Wd} {H : Hp} {vs : List V} {ts : List Ty} {N : List Str} (h : W.ok H) (w : W.wish H) (d : DT W H vs ts) : GOk W H (L2.start N vs) (ts.map some ++ List.replicate (N.length - ts.length) none) := by
  refine ⟨h, w, fun i t e => ?_, by unfold L2.start; rw [List.length_append, List.length_append, List.length_map, List.length_map, List.length_replicate, List.length_replicate, d.length]⟩
  have aux : ∀ {vs : List V} {ts : List Ty} {i : Nat} {m : Nat}, DT W H vs ts → (ts.map some ++ List.replicate m none)[i]? = some (some t) → ∃ v, vs[i]? = some v ∧ t.den W H v := by
    intro vs ts i m d
    induction d generalizing i with
    | nil =>
      intro e
      rw [List.map_nil, List.nil_append] at e
      have := List.mem_of_getElem? e
      rw [List.mem_replicate] at this
      cases this.2
    | cons x _ ih =>
      intro e
      cases i with
      | zero =>
        have : some _ = some (some t) := e
        cases this
        exact ⟨_, rfl, x⟩
      | succ i =>
        obtain ⟨v, h1, h2⟩ := ih (i := i) (by simpa using e)
        exact ⟨v, by simpa using h1, h2⟩
  obtain ⟨v, h1, h2⟩ := aux d e
  refine ⟨v, ?_, h2⟩
  unfold L2.start
  have hl : i < vs.length := (List.getElem?_eq_some_iff.mp h1).1
  rw [List.getElem?_append_left (by rw [List.length_map]; exact hl), List.getElem?_map, h1]
  rfl
/-- the body of a def keeps its promise -/
theorem body_ok {B : Bs} {P : PT} {t : TS} {N : List Str} {vs : List V} {H : Hp} {Q : VK} {E : XK}
    (hb : ∀ (W : Wd) ts rt x, W.B = B → W.ok H → (∀ H', W.ok H' → W.wish H' → XOk W H' E x) → P rt x ts → Sx W t (ts.map some ++ List.replicate (N.length - ts.length) none) { nx := fun _ => rt (T ()), rt := rt })
    (h : spG B P vs H Q E) : t { nx := fun _ H' => Q .non H', rt := Q } (L2.start N vs) H := by
  obtain ⟨W, ts, rt, x, hB, ho, d, hp, hq, hx⟩ := h
  refine hb (W.wth E x) ts rt x hB ho (fun H' _ w n d2 H2 e z q => w n d2 H2 e.wth z q) hp _ _ H (start_ok ho hx d) ⟨fun σ' H' Γ' e G q => hq .non H' (T ()) e.wth rfl q, fun v H' t e z q => hq v H' t e.wth z q, fun _ _ _ _ _ q => q.elim, fun _ _ _ _ _ q => q.elim⟩
theorem len_ok {B : Bs} {P : PT} {n : Nat} (hn : ∀ rt x ts, P rt x ts → ts.length = n) : ∀ vs H Q E, spG B P vs H Q E → vs.length = n := fun vs H Q E ⟨W, ts, rt, x, _, _, d, hp, _⟩ => d.length.trans (hn rt x ts hp)
section
variable {W : Wd} {Γ : Gam} {ta : TA} {to : TE}
/-- a call that raises nothing -/
theorem ev_call {α : Type} {rα : Rep α} {B : Bs} {P : PT} {E : XK} {k : α → Prop} (hB : W.B = B) (h : EvA W ta Γ fun ts => P (fun t => ∃ a : α, t = T a ∧ k a) (fun _ => False) ts) : EvK W (tCall (spG B P) [] E ta) Γ k := fun σ H Q G c =>
  h σ H _ G fun vs H1 ts e1 d z => ⟨W, ts, _, _, hB, e1.ok, by rw [List.append_nil]; exact d, z, fun v H2 t e2 dt ⟨a, ea, q⟩ => by
    subst ea
    exact c v H2 a (e1.trans e2) dt q, fun n d2 H2 _ _ q => q.elim⟩
/-- .. that may raise what is wished for -/
theorem ev_callX {α : Type} {rα : Rep α} {B : Bs} {P : PT} {E : XK} {x : Xn → Prop} {k : α → Prop} (hB : W.B = B) (hx : ∀ H', W.ok H' → W.wish H' → XOk W H' E x) (h : EvA W ta Γ fun ts => P (fun t => ∃ a : α, t = T a ∧ k a) x ts) : EvK W (tCall (spG B P) [] E ta) Γ k := fun σ H Q G c =>
  h σ H _ G fun vs H1 ts e1 d z => ⟨W, ts, _, x, hB, e1.ok, by rw [List.append_nil]; exact d, z, fun v H2 t e2 dt ⟨a, ea, q⟩ => by
    subst ea
    exact c v H2 a (e1.trans e2) dt q, hx H1 e1.ok (W.wst _ _ e1.keep e1.ok G.wish)⟩
end

end G
set_option Elab.async false
set_option linter.all false
set_option maxRecDepth 100000
set_option maxHeartbeats 2000000
namespace G
open PySem PySem.Spec PyProof.Rows L2 StX

/-! ### rules of the hand layer that were missing -/
section
variable {X : Cx} {CX : CXT} {k n : Nat} {f g C : Addr} {sp : Sp} {E : XK} {x : Str} {e : Expr} {es : List Expr} {t : TA} {p pos : Pos}
def tCallR (sp : Sp) (E : XK) (t : TA) : TE := fun σ H Q => t σ H fun vs H1 => sp vs H1 Q E
/-- f(e, ..) by a promise of values -/
theorem pe_callR (F : FnR X.prog X.w X.K X.mg X.base CX k f sp) (hr : Room k X.A) (hg : Gl X x) (hm : X.mg x = some (.ref f)) (hk : PySem.W.keepIn X.K (.ref f) = true) (hx : Passes CX X E)
    (ha : PA X (e :: es) t) (hdb : (x == ("__debug__" : Str)) = false := by decide) (he : starEach (e :: es) X.env = (false, eval e X.env) :: starEach es X.env := by rfl) (hpl : (backTo pos (starEach es X.env)).any (·.1) = false := by rfl) :
    PE X (.Call (.Name x p) (e :: es) [] pos) (tCallR sp E t) := by
  refine ⟨fun pins s σ H Q I h => ?_⟩
  refine wpAny_Call_Name_kw (ld_glob I hg hm ?_ hdb)
  refine PySem.W.callWith_K (h₀ := X.base) I.ok.mod.kin hk (thn (ha.run pos pins s σ H _ I h) fun us s1 ⟨vs, H1, I1, r, q⟩ => ⟨I1.kIn, ?_⟩) he hpl
  exact wpAny_call (run_fnR F hr hx I1 r q)
/-! the written part by name -/
theorem ix_listK (K : PySem.W.Frag) (h : X.K = K := by rfl) : IxR X (rIxL K) := by subst h; exact ix_list
theorem ix_tupK (K : PySem.W.Frag) (h : X.K = K := by rfl) : IxR X (rIxT K) := by subst h; exact ix_tup
theorem op_eqDK (K : PySem.W.Frag) (hu : X.A.units + 64 < cLine) (h : X.K = K := by rfl) : OpR X (compareOp .Eq) (rEqD K) := by subst h; exact op_eqD hu
theorem op_neDK (K : PySem.W.Frag) (hu : X.A.units + 64 < cLine) (h : X.K = K := by rfl) : OpR X (compareOp .NotEq) (rNeD K) := by subst h; exact op_neD hu
theorem op_inSeqK (K : PySem.W.Frag) (h : X.K = K := by rfl) : OpR X (compareOp .In) (rIn K false) := by subst h; exact op_in_seq
theorem op_notInSeqK (K : PySem.W.Frag) (h : X.K = K := by rfl) : OpR X (compareOp .NotIn) (rIn K true) := by subst h; exact op_notIn_seq
theorem call_lenK (K : PySem.W.Frag) (h : X.K = K := by rfl) : CallR X (.builtin "len") (fun xs H Q => ∃ p ys, xs = [.ref p] ∧ (SqL K H p ys ∨ SqT K H p ys) ∧ Q (.int ys.length) H) := by subst h; exact call_len_seq
theorem call_isiKK (K : PySem.W.Frag) (h : X.K = K := by rfl) : CallR X (.builtin "isinstance") (rIsi K) := by subst h; exact call_isi
theorem sl_listK (K : PySem.W.Frag) (h : X.K = K := by rfl) : SlR X (rSlL K) := by subst h; exact sl_list
theorem pe_fldK (K : PySem.W.Frag) {o : Expr} {fl : Str} {ta : TE} (he : PE X o ta) (hb : attributeBase o fl X.env (eval o X.env) = eval o X.env) (h : X.K = K := by rfl) : PE X (.Attribute o fl pos) (tFld K ta fl) := by subst h; exact pe_fld he hb
theorem pi_listK (K : PySem.W.Frag) {tg l : Expr} {tl : TE} (he : PE X l tl) (h : X.K = K := by rfl) : PI X tg l (iList K tl) := by subst h; exact pi_list he
theorem pi_tupK (K : PySem.W.Frag) {tg l : Expr} {tl : TE} (he : PE X l tl) (h : X.K = K := by rfl) : PI X tg l (iTup K tl) := by subst h; exact pi_tup he
theorem pg_tupK (K : PySem.W.Frag) {n : Nat} {u : TGs} {k : Nat} (hc : X.calm = true) (hs : PGs X es u) (hn : (assignEach es X.env).length = n := by rfl) (hst : (assignEach es X.env).findIdx? (·.1) = none := by rfl) (h : X.K = K := by rfl) : PG X (.Tuple es k pos) (gTup K n u) := by subst h; exact pg_tup hc hs hn hst
theorem pt_truthK (K : PySem.W.Frag) {a : Expr} {ta : TE} (ha : PE X a ta) (he : ∀ whole, isTrue a X.env whole = (do let v ← whole; standAt a.pos; holding [v] (truthy v))) (h : X.K = K := by rfl) :
    L2.PT X a (fun σ H Q => ta σ H fun x H' => ∃ k, TruV K x H' k ∧ Q k H') := by subst h; exact pt_truth ha he
theorem inst_of {pins : List (Addr × Obj)} {σ : L2.St} {H : Hp} {s : Shared} {a dx : Addr} {fs : List (Str × V)} (I : Inv X pins σ H s) (ea : H a = some (.ins C dx fs)) : ∃ od, PySem.W.InstAt s.heap a (PySem.W.instObj C dx) C (some od) := by
  obtain ⟨mA, O, _⟩ := ins_get I.hok ea
  obtain ⟨od, J, _⟩ := O.look
  exact ⟨od, J⟩
/-- x in o, o of a class with its own __contains__ -/
def rInOwn (C : Addr) (sp : Sp) (E : XK) : R2 := fun x y H Q => ∃ a dx fs, y = .ref a ∧ H a = some (.ins C dx fs) ∧ sp [y, x] H (fun v H' => ∃ b, v = .bl b ∧ Q (.bl b) H') E
def rNotInOwn (C : Addr) (sp : Sp) (E : XK) : R2 := fun x y H Q => ∃ a dx fs, y = .ref a ∧ H a = some (.ins C dx fs) ∧ sp [y, x] H (fun v H' => ∃ b, v = .bl b ∧ Q (.bl (!b)) H') E
theorem op_inOwn (m : Meth X.K C "__contains__" g) (F : FnR X.prog X.w X.K X.mg X.base CX n g sp) (hr : Room n X.A) (hx : Passes CX X E) : OpR X (compareOp .In) (rInOwn C sp E) := by
  intro pins s σ H x y v u Q I rx ry h
  obtain ⟨a, dx, fs, rfl, ea, q⟩ := h
  cases (show u = Value.ref a from ry)
  obtain ⟨od, J⟩ := inst_of I ea
  obtain ⟨m', hF⟩ := I.fr
  refine PySem.W.in_K hF I.ok.mod.kin J m.at_ m.fn ?_
  refine wpAny_mono (wpAny_call (run_fnR (us := [.ref a, v]) (vs := [.ref a, x]) F hr hx I (.cons rfl (.cons rx .nil)) q)) (fun w s' z => ?_) fun _ _ x => x
  obtain ⟨z', H', I', rz, b, eb, qz⟩ := z
  subst eb
  cases rz
  exact wpAny_truthy_bool ⟨.bl b, H', I', rfl, qz⟩
theorem op_notInOwn (m : Meth X.K C "__contains__" g) (F : FnR X.prog X.w X.K X.mg X.base CX n g sp) (hr : Room n X.A) (hx : Passes CX X E) : OpR X (compareOp .NotIn) (rNotInOwn C sp E) := by
  intro pins s σ H x y v u Q I rx ry h
  obtain ⟨a, dx, fs, rfl, ea, q⟩ := h
  cases (show u = Value.ref a from ry)
  obtain ⟨od, J⟩ := inst_of I ea
  obtain ⟨m', hF⟩ := I.fr
  refine PySem.W.notIn_K hF I.ok.mod.kin J m.at_ m.fn ?_
  refine wpAny_mono (wpAny_call (run_fnR (us := [.ref a, v]) (vs := [.ref a, x]) F hr hx I (.cons rfl (.cons rx .nil)) q)) (fun w s' z => ?_) fun _ _ x => x
  obtain ⟨z', H', I', rz, b, eb, qz⟩ := z
  subst eb
  cases rz
  exact wpAny_truthy_bool ⟨.bl (!b), H', I', rfl, qz⟩
/-- o op p, both of one class with its own def for op -/
def rBinOwn (C : Addr) (sp : Sp) (E : XK) : R2 := fun x y H Q => ∃ a dx fs b dy gs, x = .ref a ∧ H a = some (.ins C dx fs) ∧ y = .ref b ∧ H b = some (.ins C dy gs) ∧ sp [x, y] H (fun v H' => (∃ c, v = .ref c ∨ ∃ c, v = .bl c) ∧ Q v H') E
end

/-! ### over plain data -/
section
variable {W : Wd} {Γ : Gam} {ta : TA} {te tb to : TE}
theorem ev_callR {α : Type} {rα : Rep α} {B : Bs} {P : PT} {E : XK} {k : α → Prop} (hB : W.B = B) (h : EvA W ta Γ fun ts => P (fun t => ∃ a : α, t = T a ∧ k a) (fun _ => False) ts) : EvK W (tCallR (spG B P) E ta) Γ k := fun σ H Q G c =>
  h σ H _ G fun vs H1 ts e1 d z => ⟨W, ts, _, _, hB, e1.ok, d, z, fun v H2 t e2 dt ⟨a, ea, q⟩ => by
    subst ea
    exact c v H2 a (e1.trans e2) dt q, fun n d2 H2 _ _ q => q.elim⟩
theorem ev_callRX {α : Type} {rα : Rep α} {B : Bs} {P : PT} {E : XK} {x : Xn → Prop} {k : α → Prop} (hB : W.B = B) (hx : ∀ H', W.ok H' → W.wish H' → XOk W H' E x) (h : EvA W ta Γ fun ts => P (fun t => ∃ a : α, t = T a ∧ k a) x ts) : EvK W (tCallR (spG B P) E ta) Γ k := fun σ H Q G c =>
  h σ H _ G fun vs H1 ts e1 d z => ⟨W, ts, _, x, hB, e1.ok, d, z, fun v H2 t e2 dt ⟨a, ea, q⟩ => by
    subst ea
    exact c v H2 a (e1.trans e2) dt q, hx H1 e1.ok (W.wst _ _ e1.keep e1.ok G.wish)⟩
/-- data that is an instance of the class named c -/
class Ins (β : Type) [Rep β] (c : outParam Cn) (fl : outParam (List Str)) : Prop where
  at_ : ∀ {W : Wc} {H : Hp} {v : V} {b : β}, den W H v b → ∃ a dx fs, v = .ref a ∧ ¬ W.mu a ∧ H a = some (.ins (W.B.cl c) dx fs) ∧ fs.map (·.1) = fl
/-- the class of such data is at C -/
def OwnG (β : Type) [Rep β] (B : Bs) (C : Addr) (G : Prop) : Prop := ∃ c fl, Ins β c fl ∧ B.cl c = C ∧ G
theorem own_in {β : Type} [Rep β] {c : Cn} {fl : List Str} [i : Ins β c fl] {B : Bs} {C : Addr} {G : Prop} (hC : B.cl c = C) (h : G) : OwnG β B C G := ⟨c, fl, i, hC, h⟩
theorem ev_inOwn {α β : Type} {rα : Rep α} {rβ : Rep β} {C : Addr} {B : Bs} {P : PT} {E : XK} {k : Bool → Prop} (hB : W.B = B)
    (h : EvK W te Γ fun a : α => EvK W tb Γ fun s : β => OwnG β B C (P (fun t => ∃ b : Bool, t = T b ∧ k b) (fun _ => False) [T s, T a])) : EvK W (tOp (rInOwn C (spG B P) E) te tb) Γ k := by
  subst hB
  refine ev_two (h.imp fun a ha => ha.imp fun s ⟨c, fl, iβ, hC, hp⟩ x y H Q o dx dy q => ?_)
  subst hC
  obtain ⟨p, dp, fs, hv, _, hH, _⟩ := iβ.at_ dy
  exact ⟨p, dp, fs, hv, hH, W, _, _, _, rfl, o, .cons (t := T s) dy (.cons (t := T a) dx .nil), hp, fun v H2 t e2 dt ⟨b, eb, kb⟩ => by
    subst eb
    exact ⟨b, dt, q _ H2 b e2 rfl kb⟩, fun n d2 H2 _ _ z => z.elim⟩

/-- what == of plain data asks: that it is data -/
def EqG {α : Type} [Rep α] (a b : α) (k : Bool → Prop) : Prop := ∃ (d : Dat α) (_ : DecidableEq α), Dat.dep α ≤ 64 ∧ (Dat.good a ∧ Dat.good b) ∧ k (decide (a = b))
theorem eqg_in {α : Type} [Rep α] [Dat α] [DecidableEq α] {a b : α} {k : Bool → Prop} (h1 : Dat.dep α ≤ 64) (h2 : Dat.good a) (h3 : Dat.good b) (h : k (decide (a = b))) : EqG a b k := ⟨inferInstance, inferInstance, h1, ⟨h2, h3⟩, h⟩
def NeG {α : Type} [Rep α] (a b : α) (k : Bool → Prop) : Prop := EqG a b fun x => k (!x)
theorem neg_in {α : Type} [Rep α] [Dat α] [DecidableEq α] {a b : α} {k : Bool → Prop} (h1 : Dat.dep α ≤ 64) (h2 : Dat.good a) (h3 : Dat.good b) (h : k (!decide (a = b))) : NeG a b k := eqg_in h1 h2 h3 h
theorem ev_eqG {α : Type} {rα : Rep α} {K : PySem.W.Frag} {k : Bool → Prop} (hK : W.B.K = K) (h : EvK W te Γ fun a : α => EvK W tb Γ fun b : α => EqG a b k) : EvK W (tOp (rEqD K) te tb) Γ k := by
  subst hK
  exact ev_two (h.imp fun a ha => ha.imp fun b ⟨d, q, h1, h2, h3⟩ x y H Q o dx dy c => ⟨_, _, Dat.dp dx, Dat.dp dy, shaped_of h2.1 h1, shaped_of h2.2 h1, c _ H _ (Ext.refl o) rfl (by rw [eqv_dec]; exact h3)⟩)
theorem ev_neG {α : Type} {rα : Rep α} {K : PySem.W.Frag} {k : Bool → Prop} (hK : W.B.K = K) (h : EvK W te Γ fun a : α => EvK W tb Γ fun b : α => NeG a b k) : EvK W (tOp (rNeD K) te tb) Γ k := by
  subst hK
  exact ev_two (h.imp fun a ha => ha.imp fun b ⟨d, q, h1, h2, h3⟩ x y H Q o dx dy c => ⟨_, _, Dat.dp dx, Dat.dp dy, shaped_of h2.1 h1, shaped_of h2.2 h1, c _ H _ (Ext.refl o) rfl (by rw [eqv_dec]; exact h3)⟩)
theorem ev_pow {n m : Int} {k : Int → Prop} (hc : CPow n m) (h : k (n ^ m.toNat)) : EvK W (tOp (rI CPow fun i j => .int (i ^ j.toNat)) (tC (.int n)) (tC (.int m))) Γ k :=
  ev_opC (ev_int (ev_int ⟨hc, h⟩))
theorem ev_one {k : Bool → Prop} (h : EvK W te Γ k) : EvK W te Γ k := h
/-- isinstance of plain data -/
class PyTy (α : Type) [Rep α] (ty : String) : Prop where
  at_ : ∀ {W : Wc} {H : Hp} {v : V} {a : α}, den W H v a → TyX W.B.K H v (.type ty)
instance : PyTy Int "int" := ⟨fun h => by cases h; exact .base (.int _)⟩
instance : PyTy Bool "bool" := ⟨fun h => by cases h; exact .base (.bl _)⟩
instance : PyTy Str "str" := ⟨fun h => by cases h; exact .base (.str _)⟩
theorem ev_isi {α : Type} {rα : Rep α} {K : PySem.W.Frag} {ty n : String} {b : Bool} {k : Bool → Prop} (hK : W.B.K = K) (i : PyTy α ty) (hb : PySem.W.kitOne K (.type ty) (.type n) = some b) (h : EvK W te Γ fun _ : α => k b) :
    EvK W (tCB (rIsi K) (tCons te (tCons (tC (.ty n)) tNil))) Γ k := by
  subst hK
  exact fun σ H Q E c => h σ H _ E fun v H1 a e1 d z => ⟨v, .ty n, _, _, b, rfl, .ty n, i.at_ d, hb, c _ H1 b e1 rfl z⟩
/-! ### stretches -/
structure Stc where
  lo : Int
  hi : Int
  deriving DecidableEq
def stcF (lo hi : Int) : List (Str × V) := [("low", .int lo), ("high", .int hi)]
instance : Rep Stc :=
  ⟨fun W H v s => ∃ a dx, v = .ref a ∧ ¬ W.mu a ∧ H a = some (.ins (W.B.cl .Stretch) dx (stcF s.lo s.hi)),
   fun e ⟨a, dx, hv, m, h⟩ => ⟨a, dx, hv, m, e _ _ m h⟩,
   fun D n ⟨a, dx, hv, m, h⟩ => ⟨a, dx, hv, mu_grow n m h, h⟩,
   fun D ⟨a, dx, hv, m, h⟩ => ⟨a, dx, hv, fun z => m (.inl z), h⟩⟩
instance : Ins Stc .Stretch ["low", "high"] := ⟨fun ⟨a, dx, hv, m, h⟩ => ⟨a, dx, _, hv, m, h, rfl⟩⟩
theorem stc_low (lo hi : Int) : (stcF lo hi).lookup ("low" : Str) = some (V.int lo) := by simp [stcF, List.lookup]
theorem stc_high (lo hi : Int) : (stcF lo hi).lookup ("high" : Str) = some (V.int hi) := by
  have h : (("high" : Str) == ("low" : Str)) = false := by decide +kernel
  simp [stcF, List.lookup, h]
/-- what the text says of the class -/
structure StcT (B : Bs) : Prop where
  cl : Cls B.K (B.cl .Stretch)
  nlow : NoAttr B.K (B.cl .Stretch) "low"
  nhigh : NoAttr B.K (B.cl .Stretch) "high"
theorem stc_of {W : Wd} {B : Bs} (h : W.B = B) (s : StcT B) : StcT W.B := h ▸ s
theorem ev_low {K : PySem.W.Frag} {k : Int → Prop} (hK : W.B.K = K) (hS : StcT W.B) (h : EvK W te Γ fun s : Stc => k s.lo) : EvK W (tFld K te "low") Γ k := by
  subst hK
  refine fun σ H Q E c => h σ H _ E fun v H1 s e1 ⟨a, dx, hv, m, hH⟩ z => ?_
  exact ⟨a, _, dx, _, _, hv, hH, hS.cl, hS.nlow, stc_low _ _, c _ H1 _ e1 rfl z⟩
theorem ev_high {K : PySem.W.Frag} {k : Int → Prop} (hK : W.B.K = K) (hS : StcT W.B) (h : EvK W te Γ fun s : Stc => k s.hi) : EvK W (tFld K te "high") Γ k := by
  subst hK
  refine fun σ H Q E c => h σ H _ E fun v H1 s e1 ⟨a, dx, hv, m, hH⟩ z => ?_
  exact ⟨a, _, dx, _, _, hv, hH, hS.cl, hS.nhigh, stc_high _ _, c _ H1 _ e1 rfl z⟩
/-- __init__: the fields are set; or the error is made -/
def spSI (B : Bs) : Sp := fun vs H Q E => ∃ (p dx : Addr) (lo hi : Int), vs = [.ref p, .int lo, .int hi] ∧ H p = some (.ins (B.cl .Stretch) dx []) ∧
  lo ≤ hi ∧ Q .non (upd (upd H p (.ins (B.cl .Stretch) dx [("low", .int lo)])) p (.ins (B.cl .Stretch) dx (stcF lo hi)))
/-- Stretch(lo, hi), in order -/
theorem ev_stretch {B : Bs} {C : Addr} {E : XK} {ta tb : TE} {k : Stc → Prop} (hB : W.B = B) (hC : B.cl .Stretch = C) (h : EvK W ta Γ fun lo : Int => EvK W tb Γ fun hi : Int => lo ≤ hi ∧ k ⟨lo, hi⟩) : EvK W (tMakeR C (spSI B) E (tCons ta (tCons tb tNil))) Γ k := by
  subst hB
  subst hC
  refine fun σ H Q G c => h σ H _ G fun v H1 lo e1 d1 h1 => h1 σ H1 _ (G.ext e1) fun u H2 hi e2 d2 ⟨hle, z⟩ => ?_
  intro x dx nx ndx nex
  refine ⟨x, dx, lo, hi, by cases d1; cases d2; rfl, upd_same, hle, rfl, ?_⟩
  have o := e2.ok
  have m1 := fresh_mu o ndx
  have m2 := fresh_mu o nx
  have okx : W.ok (upd (upd (upd (upd H2 dx (.own x)) x (.ins (W.B.cl .Stretch) dx [])) x (.ins (W.B.cl .Stretch) dx [("low", .int lo)])) x (.ins (W.B.cl .Stretch) dx (stcF lo hi))) :=
    W.st _ _ _ (W.st _ _ _ (W.st _ _ _ (W.st _ _ _ o m1) m2) m2) m2
  refine c (.ref x) _ ⟨lo, hi⟩ ((e1.trans e2).trans ⟨fun a u _ q => ?_, okx⟩) ⟨x, dx, rfl, m2, upd_same⟩ z
  have n1 : a ≠ x := ne_of_none q nx
  have n2 : a ≠ dx := ne_of_none q ndx
  rw [upd_ne n1, upd_ne n1, upd_ne n1, upd_ne n2]
  exact q
end

theorem raw_seq {t u : TS} {D : Ends} {σ : L2.St} {H : Hp} (h : t { D with nx := u D } σ H) : tSeq t u D σ H := h
theorem raw_asg {te : TE} {g : TG} {D : Ends} {σ : L2.St} {H : Hp} (h : te σ H fun x H1 => g x σ H1 D.nx) : tAsg te g D σ H := h
theorem raw_ret {te : TE} {D : Ends} {σ : L2.St} {H : Hp} (h : te σ H D.rt) : tRet te D σ H := h
theorem raw_if {c : TT} {t u : TS} {D : Ends} {σ : L2.St} {H : Hp} (h : c σ H fun b H1 => if b = true then t D σ H1 else u D σ H1) : tIfS c t u D σ H := h
theorem yes_then {σ : L2.St} {H : Hp} {A B : Hp → Prop} (h : A H) : tYes σ H fun b H3 => if b = true then A H3 else B H3 := by
  show if true = true then A H else B H
  rw [if_pos rfl]
  exact h
theorem itT {c : Bool} {A B : Prop} (hc : c = true) (h : A) : if c = true then A else B := by
  rw [if_pos hc]
  exact h
theorem itF {c : Bool} {A B : Prop} (hc : c = false) (h : B) : if c = true then A else B := by
  rw [hc, if_neg Bool.false_ne_true]
  exact h
/-! ### an own list of a def, at p, kept apart -/
structure Ow where
  p : Addr
instance : Rep Ow := ⟨fun _ _ v a => v = .ref a.p, fun _ h => h, fun _ _ h => h, fun _ h => h⟩
theorem GOk.plus {W : Wd} {F H1 : Hp} {σ : L2.St} {Γ : Gam} {p : Addr} {vs : List V} (G : GOk W F σ Γ) (n : F p = none) (e : Ext W F H1) (hp : H1 p = some (.lst vs)) : GOk (W.plus p vs F n G.ok G.wish) H1 σ Γ :=
  ⟨⟨e.ok, hp⟩, fun b o m z => e.keep b o m z, fun i t h => by
    obtain ⟨v, h1, h2⟩ := G.at_ i t h
    exact ⟨v, h1, Ty.mono (fun b o m z => e.keep b o (fun z => m (.inl z)) z) (t.r.grow p n h2)⟩, G.len⟩
theorem ext_plus {W : Wd} {F H1 H2 : Hp} {p : Addr} {vs : List V} {n : F p = none} {o1 : W.ok F} {w1 : W.wish F} (e : Ext W F H1) (e2 : Ext (W.plus p vs F n o1 w1) H1 H2) : Ext W F H2 :=
  ⟨fun b o m z => e2.keep b o (fun q => q.elim m fun q => by subst q; rw [n] at z; cases z) (e.keep b o m z), e2.ok.1⟩
/-- the own list gets one more -/
theorem ext_upd {W : Wd} {F H1 : Hp} {p : Addr} {o' : HO} (n : F p = none) (o1 : W.ok F) (e : Ext W F H1) : Ext W F (upd H1 p o') :=
  ⟨fun b o m z => by rw [upd_ne (fun q => by subst q; rw [n] at z; cases z)]; exact e.keep b o m z, W.st _ _ _ e.ok (fresh_mu o1 n)⟩
theorem kp_upd {W : Wc} {H : Hp} {p : Addr} {o' : HO} : Kp (W.plus p) H (upd H p o') := fun b o m z => by rw [upd_ne (fun q => m (.inr q))]; exact z
theorem own_at {W : Wd} {H : Hp} {σ : L2.St} {Γ : Gam} {p : Addr} {i : Nat} (G : GOk W H σ Γ) (h : Γ[i]? = some (some (T (Ow.mk p)))) : σ[i]? = some (some (.ref p)) := by
  obtain ⟨v, h1, h2⟩ := G.at_ i _ h
  obtain rfl : v = .ref p := h2
  exact h1
/-! ### the law's own box -/
def boxW (B : Bs) (b c : Addr) (hbc : b ≠ c) (cells : List V) (ns : List Int) (hc : cells = ns.map V.int) : Wd where
  B := B
  mu := fun a => a = b ∨ a = c
  box := fun a => a = b
  ok := fun H => (∃ i p s : Int, H b = some (.lst [.ref c, .int i, .int p, .int s]) ∧ 0 ≤ i ∧ 0 ≤ p) ∧ H c = some (.lst cells)
  live := fun H a ⟨⟨i, p, s, h, _⟩, h2⟩ m => by
    rcases m with m | m
    · subst m; exact ⟨_, h⟩
    · subst m; exact ⟨_, h2⟩
  st := fun H p o ⟨⟨i, q, s, h, z⟩, h2⟩ m => ⟨⟨i, q, s, by rw [upd_ne (fun e => m (.inl e.symm))]; exact h, z⟩, by rw [upd_ne (fun e => m (.inr e.symm))]; exact h2⟩
  wish := fun _ => True
  wst := fun _ _ _ _ _ => trivial
  hasbox := fun H a ⟨⟨i, q, s, h, z⟩, h2⟩ e => by
    subst e
    exact ⟨c, ns, i, q, s, hbc, h, by rw [h2, hc], z⟩
  boxset := fun H a c1 i1 p1 s1 i' p' s' ⟨⟨i, q, s, h, z⟩, h2⟩ e h1 z1 z2 => by
    subst e
    rw [h] at h1
    obtain rfl : c = c1 := by injection h1 with h1; injection h1 with h1; injection h1 with h1 _; injection h1
    exact ⟨⟨i', p', s', upd_same, z1, z2⟩, by rw [upd_ne (Ne.symm hbc)]; exact h2⟩
  boxmu := fun a e => .inl e
  oke := fun H H' ⟨⟨i, p, s, h, z⟩, h2⟩ k => ⟨⟨i, p, s, k _ _ h, z⟩, k _ _ h2⟩
/-- the rest of the law, behind its box -/
theorem law_run {B : Bs} {t : TS} {σ : L2.St} {H : Hp} {Q : VK} {b c : Addr} {ns : List Int} {s : Int} {j : Nat} (hbc : b ≠ c) (hb : H b = some (.lst [.ref c, .int 0, .int 0, .int s])) (hc : H c = some (.lst (ns.map V.int)))
    (hj : σ[j]? = some (some (.ref b))) (hQ : ∀ H', Q (.bl true) H')
    (hs : ∀ W : Wd, W.B = B → Sx W t ((List.replicate σ.length none).set j (some (T Bx.mk))) { nx := fun _ => False, rt := fun t => t = T true }) : t { nx := fun _ H' => Q .non H', rt := Q } σ H := by
  refine hs (boxW B b c hbc _ ns rfl) rfl _ σ H ⟨⟨⟨0, 0, s, hb, Int.le_refl _, Int.le_refl _⟩, hc⟩, trivial, fun i t h => ?_, by rw [List.length_set, List.length_replicate]⟩ ⟨fun _ _ _ _ _ q => q.elim, fun v H' t _ d q => ?_, fun _ _ _ _ _ q => q.elim, fun _ _ _ _ _ q => q.elim⟩
  · by_cases e : j = i
    · subst e
      have hl : j < (List.replicate σ.length (none : Option Ty)).length := by rw [List.length_replicate]; exact (List.getElem?_eq_some_iff.mp hj).1
      rw [List.getElem?_set_self hl] at h
      cases h
      exact ⟨_, hj, b, rfl, rfl⟩
    · rw [List.getElem?_set_ne e] at h
      have := List.mem_of_getElem? h
      rw [List.mem_replicate] at this
      cases this.2
  · subst q
    obtain rfl : v = .bl true := d
    exact hQ H'
/-! ### the text of a law -/
theorem room {j k : Nat} {A : Around} (h : Room k A) (hjk : j ≤ k := by decide) : Room j A := h.mono hjk
theorem huD {k : Nat} {A : Around} (h : Room k A) : A.units + 64 < cLine := h.units
def DefM (K : PySem.W.Frag) (name qual : Str) (st : Stmt) (ps : List Str) (f : Addr) : Prop := ∃ fd, Fun K name qual st f fd ∧ Binds K fd ps []
structure DefAt (K : PySem.W.Frag) (mg : Str → Option Value) (name : Str) (st : Stmt) (ps : List Str) (f : Addr) : Prop where
  d : DefM K name name st ps f
  g : mg name = some (.ref f)
  kp : PySem.W.keepIn K (.ref f) = true
section
variable {P : Program} {w : World} {K : PySem.W.Frag} {mg : Str → Option Value} {base : Heap}
theorem fnR_of {st : Stmt} {N ps : List Str} {k : Nat} {sp : Sp} {f : Addr} {name qual : Str} (D : DefM K name qual st ps f) (S : FnScope N ps (defScope st)) (len : ∀ vs H Q E, sp vs H Q E → vs.length = ps.length)
    (hbody : ∀ (cdv : Value) (A : Around) (outer : List Env) (s : Shared) (H : Hp) (vs : List V) (Q : VK) (E : XK), Room k (A.deeper (envOfC qual (defScope st) s.heap.objs.size f cdv)) → sp vs H Q E →
      ∃ t, PSs (cxOf CX0 P w K mg base N qual (defScope st) f cdv A outer s H E).nox (defBody st) t ∧ t { nx := fun _ H' => Q .non H', rt := Q } (L2.start N vs) H) : FnR P w K mg base CX0 (k + 1) f sp := by
  obtain ⟨fd, F, b⟩ := D
  exact ((F.ok S len hbody).raw b .nil).imp fun vs H Q E h => by rw [List.append_nil]; exact h
end
end G
set_option Elab.async false
set_option linter.all false
set_option maxRecDepth 100000
set_option maxHeartbeats 2000000
namespace G
open PySem PySem.Spec PyProof.Rows L2 StX

/-! ### errors with an own __init__ that first says GaugeError.__init__(self, ..) -/
section
variable {X : Cx} {e : Expr} {es : List Expr} {ta : TA} {p1 p2 pos : Pos}
/-- what the text says of GaugeError, at CG -/
structure GeT (K : PySem.W.Frag) (mg : Str → Option Value) (CG : Addr) : Prop where
  g : mg "GaugeError" = some (.ref CG)
  ga : PySem.W.specialIn K (.ref CG) "__getattribute__" = some (some (.builtin "type.__getattribute__"))
  rd : PySem.W.readsIn K CG (.type "type") = true
  at_ : PySem.W.findCls K (.ref CG) (.type "type") "__init__" = some (.val (.builtin "ValueError.__init__"))
theorem pe_geinit {pl : Sem Bool} {CG : Addr} (T : GeT X.K X.mg CG) (ha : PA X (e :: es) ta) (hg : Gl X "GaugeError" := by rfl)
    (hc : eval (.Call (.Attribute (.Name "GaugeError" p1) "__init__" p2) (e :: es) [] pos) X.env = (do
      let ov ← eval (.Name "GaugeError" p1) X.env
      standAt p2.atName
      let (f, first) ← holding [ov] (getMethod ov "__init__" pl)
      callWith pos f first (backTo pos (starEach (e :: es) X.env)) (backToKw pos (keywordEach [] X.env))) := by rfl)
    (he : starEach (e :: es) X.env = (false, eval e X.env) :: starEach es X.env := by rfl) (hpl : (backTo pos (starEach es X.env)).any (·.1) = false := by rfl) :
    PE X (.Call (.Attribute (.Name "GaugeError" p1) "__init__" p2) (e :: es) [] pos) (tVeI X.K ta) := by
  refine ⟨fun pins s σ H Q I h => ?_⟩
  refine PySem.W.methodCall_KW (ld_glob I hg T.g ?_) hc
  refine PySem.W.method_cls I.kIn T.ga (PySem.W.cls_value I.kIn T.rd T.at_ (by decide +kernel) ?_)
  show wpAny _ _ (callWith pos (Value.builtin "ValueError.__init__") [] (backTo pos (starEach (e :: es) X.env)) []) _ _ _
  refine PyProof.Rows.callWith_method1 (thn (ha.run pos pins _ σ H _ (I.tok _) h) fun us s1 ⟨vs, H1, I1, r1, a, C, ws, ev, hl, T, ea, q⟩ => ?_) he hpl
  subst ev
  cases r1 with
  | @cons _ u0 _ ur ra rw' =>
    obtain rfl : u0 = Value.ref a := ra
    have hlen : ur.length ≤ sizeLine := by
      rw [← Paired.length rw', sizeLine_eq]
      omega
    exact oinit_ok T I1 ea hlen fun s' J => ⟨.non, H1, J, rfl, q⟩
end
/-- numbers that can be written into a text -/
def Small (i : Int) : Prop := i.natAbs.log2 < 1920
theorem small_of {i : Int} (h : i.natAbs < 2 ^ 1000) : Small i := by
  unfold Small
  rcases Nat.eq_zero_or_pos i.natAbs with h0 | h0
  · rw [h0]; decide
  · have := (Nat.log2_lt (by omega)).mpr h
    omega
/-- BadStretch.__init__ -/
def spBad2 (K : PySem.W.Frag) (C : Addr) (f1 f2 : Str) : Sp := fun vs H Q E => ∃ (a : Addr) (i j : Int), vs = [.ref a, .int i, .int j] ∧ Small i ∧ Small j ∧ H a = some (exo a C none) ∧
  ∀ dx, H dx = none → dx ≠ a → Q .non (upd (upd (upd H dx (exd dx [(f1, .int i)])) a (exo a C (some dx))) dx (exd dx [(f2, .int j), (f1, .int i)]))
/-- what the end of a raise leaves: the state before, and the error's own dict -/
theorem bad_end {H : Hp} {a d C : Addr} {fs f1 : List (Str × V)} (na : H a = none) (nd : H d = none) (hda : d ≠ a) :
    upd (del (upd (upd (upd (upd H a (exo a C none)) d (exd d f1)) a (exo a C (some d))) d (exd d fs)) a) d (.xd fs) = upd H d (.xd fs) := by
  funext b
  by_cases hb : b = d
  · subst hb
    rw [upd_same, upd_same]
  · rw [upd_ne hb, upd_ne hb]
    by_cases ha : b = a
    · subst ha
      rw [del_same, na]
    · rw [del_ne ha, upd_ne hb, upd_ne ha, upd_ne hb, upd_ne ha]
/-- __init__ of Stretch, all of it -/
def spSIX (B : Bs) : Sp := fun vs H Q E => ∃ (p dx : Addr) (lo hi : Int), vs = [.ref p, .int lo, .int hi] ∧ H p = some (.ins (B.cl .Stretch) dx []) ∧
  (lo ≤ hi → Q .non (upd (upd H p (.ins (B.cl .Stretch) dx [("low", .int lo)])) p (.ins (B.cl .Stretch) dx (stcF lo hi)))) ∧
  (hi < lo → Small lo ∧ Small hi ∧ ∀ d, H d = none → E (.ref (B.cl .BadStretch)) (some d) (upd H d (.xd [("high", .int hi), ("low", .int lo)])))
theorem XOk.ext {W : Wd} {H H' : Hp} {E : XK} {x : Xn → Prop} (w : XOk W H E x) (e : Ext W H H') : XOk W H' E x := fun n d H2 e2 => w n d H2 (e.trans e2)
section
variable {W : Wd} {Γ : Gam}
/-- Stretch(lo, hi), in order or not -/
theorem ev_stretchX {B : Bs} {C : Addr} {E : XK} {ta tb : TE} {k : Stc → Prop} {x : Xn → Prop} (hB : W.B = B) (hC : B.cl .Stretch = C) (hx : ∀ H', W.ok H' → W.wish H' → XOk W H' E x)
    (h : EvK W ta Γ fun lo : Int => EvK W tb Γ fun hi : Int => (lo ≤ hi → k ⟨lo, hi⟩) ∧ (hi < lo → Small lo ∧ Small hi ∧ x ⟨.BadStretch, [("high", .i hi), ("low", .i lo)]⟩)) : EvK W (tMakeR C (spSIX B) E (tCons ta (tCons tb tNil))) Γ k := by
  subst hB
  subst hC
  refine fun σ H Q G c => h σ H _ G fun v H1 lo e1 d1 h1 => h1 σ H1 _ (G.ext e1) fun u H2 hi e2 d2 ⟨hle, hlt⟩ => ?_
  intro xx dx nx ndx nex
  have o := e2.ok
  have m1 := fresh_mu o ndx
  have m2 := fresh_mu o nx
  have w2 : W.wish H2 := ((G.ext e1).ext e2).wish
  have e3 : ∀ o', Ext W H2 (upd (upd H2 dx (.own xx)) xx o') := fun o' => ⟨fun a u _ q => by rw [upd_ne (ne_of_none q nx), upd_ne (ne_of_none q ndx)]; exact q, W.st _ _ _ (W.st _ _ _ o m1) m2⟩
  refine ⟨xx, dx, lo, hi, by cases d1; cases d2; rfl, upd_same, fun hl => ⟨rfl, ?_⟩, fun hl => ?_⟩
  · have okx : W.ok (upd (upd (upd (upd H2 dx (.own xx)) xx (.ins (W.B.cl .Stretch) dx [])) xx (.ins (W.B.cl .Stretch) dx [("low", .int lo)])) xx (.ins (W.B.cl .Stretch) dx (stcF lo hi))) :=
      W.st _ _ _ (W.st _ _ _ (W.st _ _ _ (W.st _ _ _ o m1) m2) m2) m2
    refine c (.ref xx) _ ⟨lo, hi⟩ ((e1.trans e2).trans ⟨fun a u _ q => ?_, okx⟩) ⟨xx, dx, rfl, m2, upd_same⟩ (hle hl)
    have n1 : a ≠ xx := ne_of_none q nx
    have n2 : a ≠ dx := ne_of_none q ndx
    rw [upd_ne n1, upd_ne n1, upd_ne n1, upd_ne n2]
    exact q
  · obtain ⟨s1, s2, xq⟩ := hlt hl
    refine ⟨s1, s2, fun d hd => ?_⟩
    have e4 := (e3 (.ins (W.B.cl .Stretch) dx []))
    have md := fresh_mu e4.ok hd
    exact hx H2 o w2 _ _ _ (e4.trans (Ext.new (o := .xd [("high", .int hi), ("low", .int lo)]) e4.ok hd)) (.inr ⟨d, _, rfl, md, upd_same, .cons (t := .i hi) rfl (.cons (t := .i lo) rfl .nil)⟩) xq
end

/-! ### further rules of the hand layer -/
section
variable {X : Cx} {CX : CXT} {k n : Nat} {f g C : Addr} {sp : Sp} {E : XK} {o e : Expr} {es : List Expr} {to te ta : TE} {t : TA} {p p' pos apos : Pos} {m : Str}
theorem pe_geinitK (K : PySem.W.Frag) {p1 p2 : Pos} {pl : Sem Bool} {CG : Addr} (T : GeT X.K X.mg CG) (ha : PA X (e :: es) t) (hK : X.K = K := by rfl) (hg : Gl X "GaugeError" := by rfl)
    (hc : eval (.Call (.Attribute (.Name "GaugeError" p1) "__init__" p2) (e :: es) [] pos) X.env = (do
      let ov ← eval (.Name "GaugeError" p1) X.env
      standAt p2.atName
      let (f, first) ← holding [ov] (getMethod ov "__init__" pl)
      callWith pos f first (backTo pos (starEach (e :: es) X.env)) (backToKw pos (keywordEach [] X.env))) := by rfl)
    (he : starEach (e :: es) X.env = (false, eval e X.env) :: starEach es X.env := by rfl) (hpl : (backTo pos (starEach es X.env)).any (·.1) = false := by rfl) :
    PE X (.Call (.Attribute (.Name "GaugeError" p1) "__init__" p2) (e :: es) [] pos) (tVeI K t) := by subst hK; exact pe_geinit T ha hg hc he hpl
theorem ps_ostK (K : PySem.W.Frag) (ho : PE X o to) (he : PE X e te) (hs : swapsWith e (some (.Attribute o m p')) pos.line X.env = pure false := by rfl) (hK : X.K = K := by rfl) : PS X (.Assign [.Attribute o m p'] e pos) (tOst K m to te) := by subst hK; exact ps_ost ho he hs
/-- C(e, ..), an error with its own __init__ -/
theorem pmk_oexR {x : Str} {C fI : Addr} (T : OexC X.K C) (iC : PySem.W.findIn X.K (.ref C) "__init__" = some (some (.ref fI))) (tI : PySem.W.typeIn X.K (.ref fI) = some (.type "function"))
    (F : FnR X.prog X.w X.K X.mg X.base CX k fI sp) (hr : Room (k + 1) X.A) (hx : Passes CX X (fun _ _ _ => False)) (hg : Gl X x) (hm : X.mg x = some (.ref C)) (ha : PA X (e :: es) t)
    (hdb : (x == ("__debug__" : Str)) = false := by decide) (he : starEach (e :: es) X.env = (false, eval e X.env) :: starEach es X.env := by rfl) (hpl : (backTo pos (starEach es X.env)).any (·.1) = false := by rfl) :
    PMk X (.Call (.Name x p) (e :: es) [] pos) (tMkO C sp [] t) := by
  intro pins s σ H Q I h
  obtain ⟨nm, q, N, bs, bm, sn, sub, ab, col, dd, k0, k1, k2, k3, k5, hC, hbm⟩ := T.cls
  refine wpAny_Call_Name_kw (ld_glob I hg hm ?_ hdb)
  refine PySem.W.callWith_K (h₀ := X.base) I.ok.mod.kin T.kC (thn (ha.run pos pins s σ H _ I h) fun us s1 ⟨vs, H1, I1, r1, hz, q1⟩ => ⟨I1.kIn, ?_⟩) he hpl
  show wpAny _ _ (call (.ref C) us) _ _ _
  obtain ⟨hp, g, dr, tk, os⟩ := s1
  have hsz : hp.objs.size ≤ hp.objs.size + 1 := Nat.le_succ _
  have hn : H1 (hp.objs.size + 1) = none := I1.hok.fresh hsz
  have hq := q1 (hp.objs.size + 1) hn
  have kk : ∀ b o, hp.get? b = some o → ((hp.push (PySem.W.kdv_tup us)).push (PySem.HandSPX.excO C hp.objs.size)).get? b = some o := fun b o e => Heap.get?_push_of_some _ (Heap.get?_push_of_some _ e)
  have hget : ((hp.push (PySem.W.kdv_tup us)).push (PySem.HandSPX.excO C hp.objs.size)).get? (hp.objs.size + 1) = some (PySem.HandSPX.excO C hp.objs.size) := by heap_get
  have I2 : Inv X pins σ (upd H1 (hp.objs.size + 1) (exo (hp.objs.size + 1) C none)) ⟨(hp.push (PySem.W.kdv_tup us)).push (PySem.HandSPX.excO C hp.objs.size), g, dr, tk, os⟩ :=
    I1.laid (t' := tk) (a := hp.objs.size + 1) (o := exo (hp.objs.size + 1) C none) (h' := (hp.push (PySem.W.kdv_tup us)).push (PySem.HandSPX.excO C hp.objs.size)) kk hsz (exo_ok hget)
  have r2 : Vals (V.ref (hp.objs.size + 1) :: (vs ++ [])) (Value.ref (hp.objs.size + 1) :: us) := .cons rfl (by rw [List.append_nil]; exact r1)
  have hus : us.length ≤ sizeLine := by
    rw [← Paired.length r1, sizeLine_eq]
    omega
  refine wpAny_call (PySem.HandSPX.call_own PySem.F.excBase_ValueError (fun Y => PySem.HandSPX.refsVE_contains Y bm hbm) (I1.kIn _ _ hC) (PySem.W.looks_findIn I1.kIn iC) (fun self => PySem.W.bind_fn I1.kIn self tI) hus
    (codeAny_mono (F _ X.stack _ _ (Value.ref (hp.objs.size + 1) :: us) _ _ (fun _ _ _ => False) (hr.make C us []) (I2.env0.make C us []) r2 hq) fun r s' hq' => ?_))
  cases r with
  | error er => exact hx pins σ _ _ er s' I2 hq'
  | ok fl =>
    cases fl with
    | ret u =>
      obtain ⟨v, H2, os2, bare2, un2, hok2, rv, ev, d, fs, ea, ed, hd1, q2⟩ := hq'
      subst ev
      obtain ⟨h2, g2, d2, t2, os'⟩ := s'
      exact ⟨rv, mk_end (raises_own T.exC T.tyC) I1 hsz kk un2 hok2 os2 bare2 ea ed hd1 q2⟩
    | next => exact False.elim hq'
    | brk => exact False.elim hq'
    | cont => exact False.elim hq'
end
end G
set_option Elab.async false
set_option linter.all false
set_option maxRecDepth 100000
set_option maxHeartbeats 2000000
set_option exponentiation.threshold 2000
namespace G
open PySem PySem.Spec PyProof.Rows L2 StX

/-! ### calls whose errors go to a suite: the wish may speak of the slots -/
section
variable {X : Cx} {CX : CXT} {k n : Nat} {f g C : Addr} {sp : Sp} {E : L2.St → XK} {x m : Str} {o e e2 : Expr} {es : List Expr} {te to tb : TE} {t : TA} {p pos apos : Pos}
theorem passSL : ∀ σ, PassesAt (L2.CX X.prog X.w) X σ ((fun _ => E0) σ) := fun σ pins H s e s' I h => passL pins σ H s e s' I h
theorem passS0 : ∀ σ, PassesAt CX0 X σ ((fun _ => E0) σ) := fun σ pins H s e s' I h => pass0 pins σ H s e s' I h
theorem run_fnRS {pins : List (Addr × Obj)} {σ : L2.St} {H : Hp} {s : Shared} {E : XK} {Q : VK} {us : List Value} {vs : List V} (F : FnR X.prog X.w X.K X.mg X.base CX k f sp) (hr : Room k X.A) (hx : PassesAt CX X σ E) (I : L2.Inv X pins σ H s) (r : Vals vs us) (q : sp vs H Q E) :
    wpAny (model X.prog X.w) X.A (call (.ref f) us) (EP X pins σ Q) X.xe s := by
  refine wpAny_call (codeAny_mono (F _ X.stack _ _ us _ _ E hr I.env0 r q) fun r s' h => ?_)
  cases r with
  | error e => exact hx pins H s e s' I h
  | ok fl =>
    cases fl with
    | ret u =>
      obtain ⟨v, H2, os2, bare2, un2, hok2, rv, qv⟩ := h
      exact ⟨v, H2, I.call' os2 un2 hok2 bare2 (fun b hb => (nomatch hb)), rv, qv⟩
    | next => exact False.elim h
    | brk => exact False.elim h
    | cont => exact False.elim h
def tCallZ (sp : Sp) (E : L2.St → XK) (t : TA) : TE := fun σ H Q => t σ H fun vs H1 => sp vs H1 Q (E σ)
/-- f(e, ..) -/
theorem pe_callZ (F : FnR X.prog X.w X.K X.mg X.base CX k f sp) (hr : Room k X.A) (hg : Gl X x) (hm : X.mg x = some (.ref f)) (hk : PySem.W.keepIn X.K (.ref f) = true) (hx : ∀ σ, PassesAt CX X σ (E σ))
    (ha : PA X (e :: es) t) (hdb : (x == ("__debug__" : Str)) = false := by decide) (he : starEach (e :: es) X.env = (false, eval e X.env) :: starEach es X.env := by rfl) (hpl : (backTo pos (starEach es X.env)).any (·.1) = false := by rfl) :
    PE X (.Call (.Name x p) (e :: es) [] pos) (tCallZ sp E t) := by
  refine ⟨fun pins s σ H Q I h => ?_⟩
  refine wpAny_Call_Name_kw (ld_glob I hg hm ?_ hdb)
  exact PySem.W.callWith_K (h₀ := X.base) I.ok.mod.kin hk (thn (ha.run pos pins s σ H _ I h) fun us s1 ⟨vs, H1, I1, r, q⟩ => ⟨I1.kIn, run_fnRS F hr (hx σ) I1 r q⟩) he hpl
def tMakeZ (C : Addr) (sp : Sp) (E : L2.St → XK) (t : TA) : TE := fun σ H Q => t σ H fun vs H1 => ∀ x dx, H1 x = none → H1 dx = none → dx ≠ x → sp (.ref x :: vs) (upd (upd H1 dx (.own x)) x (.ins C dx [])) (fun v H2 => v = .non ∧ Q (.ref x) H2) (E σ)
theorem run_makeZ {pins : List (Addr × Obj)} {σ : L2.St} {H : Hp} {s : Shared} {E : XK} {Q : VK} {us : List Value} {vs : List V} (M : Mk X.K C f) (F : FnR X.prog X.w X.K X.mg X.base CX k f sp) (hr : Room (k + 1) X.A) (hx : PassesAt CX X σ E) (I : L2.Inv X pins σ H s) (r : Vals vs us)
    (q : ∀ x dx, H x = none → H dx = none → dx ≠ x → sp (.ref x :: vs) (upd (upd H dx (.own x)) x (.ins C dx [])) (fun v H2 => v = .non ∧ Q (.ref x) H2) E) :
    wpAny (model X.prog X.w) X.A (call (.ref C) us) (EP X pins σ Q) X.xe s := by
  have I2 := I.made (C := C)
  have n1 : H s.heap.objs.size = none := I.hok.fresh (Nat.le_refl _)
  have n2 : H (s.heap.objs.size + 1) = none := I.hok.fresh (Nat.le_succ _)
  have hq := q _ _ n2 n1 (Nat.ne_of_lt (Nat.lt_succ_self _))
  refine wpAny_call (make_map I.kIn M.makes M.init (by simpa [PySem.W.isFn] using M.fn) (codeAny_mono (F _ X.stack _ _ (.ref (s.heap.objs.size + 1) :: us) _ _ E (hr.make C us []) (I2.env0.make C us []) (.cons (show L2.RelV (.ref _) (.ref _) from rfl) r) hq) fun r s' h => ?_))
  cases r with
  | error e => exact hx pins _ _ e s' I2 h
  | ok fl =>
    cases fl with
    | ret u =>
      obtain ⟨v, H3, os2, bare2, un2, hok2, rv, ev, q3⟩ := h
      subst ev
      exact ⟨rv, .ref _, H3, I2.call' os2 un2 hok2 bare2 (fun b hb => (nomatch hb)), rfl, q3⟩
    | next => exact False.elim h
    | brk => exact False.elim h
    | cont => exact False.elim h
/-- C(e, ..) -/
theorem pe_makeZ (M : Mk X.K C f) (F : FnR X.prog X.w X.K X.mg X.base CX k f sp) (hr : Room (k + 1) X.A) (hg : Gl X x) (hm : X.mg x = some (.ref C)) (hx : ∀ σ, PassesAt CX X σ (E σ))
    (ha : PA X (e :: es) t) (hdb : (x == ("__debug__" : Str)) = false := by decide) (he : starEach (e :: es) X.env = (false, eval e X.env) :: starEach es X.env := by rfl) (hpl : (backTo pos (starEach es X.env)).any (·.1) = false := by rfl) :
    PE X (.Call (.Name x p) (e :: es) [] pos) (tMakeZ C sp E t) := by
  refine ⟨fun pins s σ H Q I h => ?_⟩
  refine wpAny_Call_Name_kw (ld_glob I hg hm ?_ hdb)
  exact PySem.W.callWith_K (h₀ := X.base) I.ok.mod.kin M.kp (thn (ha.run pos pins s σ H _ I h) fun us s1 ⟨vs, H1, I1, r, q⟩ => ⟨I1.kIn, run_makeZ M F hr (hx σ) I1 r q⟩) he hpl
def tMethZ (C : Addr) (m : Str) (sp : Sp) (E : L2.St → XK) (ta : TE) (t : TA) : TE := fun σ H Q => ta σ H fun x H1 => ∃ a dx fs, x = .ref a ∧ H1 a = some (.ins C dx fs) ∧ fs.lookup m = none ∧ t σ H1 fun vs H2 => sp (x :: vs) H2 Q (E σ)
/-- o.m(e, ..) -/
theorem pe_methZ {pl : Sem Bool} (ho : PE X o to) (c : Cls X.K C) (hm : Meth X.K C m f) (F : FnR X.prog X.w X.K X.mg X.base CX k f sp) (hr : Room k X.A) (hx : ∀ σ, PassesAt CX X σ (E σ)) (ha : PA X (e :: es) t)
    (he : starEach (e :: es) X.env = (false, eval e X.env) :: starEach es X.env := by rfl) (hpl : (backTo pos (starEach es X.env)).any (·.1) = false := by rfl)
    (hc : eval (.Call (.Attribute o m apos) (e :: es) [] pos) X.env = (do
      let ov ← eval o X.env
      standAt apos.atName
      let (f, first) ← holding [ov] (getMethod ov m pl)
      callWith pos f first (backTo pos (starEach (e :: es) X.env)) (backToKw pos (keywordEach [] X.env))) := by rfl) :
    PE X (.Call (.Attribute o m apos) (e :: es) [] pos) (tMethZ C m sp E to t) := by
  refine ⟨fun pins s σ H Q I h => ?_⟩
  refine PySem.W.methodCall_KW (thn (ho.run pins s σ H _ I h) fun ov s1 ⟨x, H1, I1, rx, a, dx, fs, ex, ea, hl, q⟩ => ?_) hc
  subst ex
  cases (show ov = Value.ref a from rx)
  refine getmeth_ok I1 ea c hm hl ?_
  show wpAny _ _ (callWith pos (Value.ref f) [Value.ref a] (backTo pos (starEach (e :: es) X.env)) []) _ _ _
  exact PySem.W.callWith_K (h₀ := X.base) I1.ok.mod.kin hm.kp (thn (ha.run pos pins s1 σ H1 _ I1 q) fun us s2 ⟨vs, H2, I2, r, q2⟩ => ⟨I2.kIn, run_fnRS (vs := .ref a :: vs) F hr (hx σ) I2 (.cons (show L2.RelV (.ref a) (.ref a) from rfl) r) q2⟩) he hpl
/-- o.m() -/
theorem pe_methZ0 {pl : Sem Bool} (ho : PE X o to) (c : Cls X.K C) (hm : Meth X.K C m f) (F : FnR X.prog X.w X.K X.mg X.base CX k f sp) (hr : Room k X.A) (hx : ∀ σ, PassesAt CX X σ (E σ))
    (hc : eval (.Call (.Attribute o m apos) [] [] pos) X.env = (do
      let ov ← eval o X.env
      standAt apos.atName
      let (f, first) ← holding [ov] (getMethod ov m pl)
      callWith pos f first (backTo pos (starEach [] X.env)) (backToKw pos (keywordEach [] X.env))) := by rfl) :
    PE X (.Call (.Attribute o m apos) [] [] pos) (tMethZ C m sp E to tNil) := by
  refine ⟨fun pins s σ H Q I h => ?_⟩
  refine PySem.W.methodCall_KW (thn (ho.run pins s σ H _ I h) fun ov s1 ⟨x, H1, I1, rx, a, dx, fs, ex, ea, hl, q⟩ => ?_) hc
  subst ex
  cases (show ov = Value.ref a from rx)
  refine getmeth_ok I1 ea c hm hl ?_
  show wpAny _ _ (callWith pos (Value.ref f) [Value.ref a] (backTo pos (starEach [] X.env)) []) _ _ _
  exact PySem.W.callWith_K0 I1.kIn hm.kp (run_fnRS (vs := [.ref a]) F hr (hx σ) I1 (.cons (show L2.RelV (.ref a) (.ref a) from rfl) .nil) q)
/-- values that are not NotImplemented -/
def Pl (v : V) : Prop := (∃ c, v = .ref c) ∨ (∃ b, v = .bl b) ∨ ∃ i, v = .int i
theorem cmp_back {pins : List (Addr × Obj)} {σ : L2.St} {Q : VK} {u : Value} {s : Shared} (h : EP X pins σ (fun v H' => Pl v ∧ Q v H') u s) : PySem.W.CmpBack (EP X pins σ Q) u s := by
  obtain ⟨v, H', I, r, hv, q⟩ := h
  rcases hv with ⟨c, rfl⟩ | ⟨c, rfl⟩ | ⟨c, rfl⟩
  · cases (show u = Value.ref c from r)
    exact ⟨.ref c, H', I, rfl, q⟩
  · cases (show u = Value.bool c from r)
    exact ⟨.bl c, H', I, rfl, q⟩
  · cases u with
    | int j tk => exact ⟨.int c, H', I, r, q⟩
    | _ => exact (nomatch r)
/-- own def for an operator: what the text says -/
structure OpT (K : PySem.W.Frag) (C : Addr) (m : Str) (f : Addr) : Prop where
  sf : PySem.W.selfFirst K C = true
  at_ : PySem.W.findIn K (.ref C) m = some (some (.ref f))
  fn : PySem.W.isFn K (.ref f) = true
/-- .. with an int on the right -/
structure OpTI (K : PySem.W.Frag) (C : Addr) (m mr : Str) (f : Addr) : Prop extends OpT K C m f where
  rc : PySem.W.findIn K (.ref C) mr = some none
  fo : ∃ fo, PySem.W.findIn K (.type "int") m = some fo
  ro : ∃ ro, PySem.W.findIn K (.type "int") mr = some ro
  sub : PySem.W.subIn K (.type "int") (.ref C) = some false
def tBinI (C : Addr) (sp : Sp) (E : L2.St → XK) (ta tb : TE) : TE := fun σ H Q => ta σ H fun x H1 => tb σ H1 fun y H2 => ∃ a dx fs i, x = .ref a ∧ H2 a = some (.ins C dx fs) ∧ y = .int i ∧ sp [x, y] H2 (fun v H' => Pl v ∧ Q v H') (E σ)
/-- o op i -/
theorem pe_binI {op : Operator} {m mr : Str} (T : OpTI X.K C m mr f) (hm : dunder op.info.2 = m) (hmr : dunderR op.info.2 = mr) (F : FnR X.prog X.w X.K X.mg X.base CX k f sp) (hr : Room k X.A) (hx : ∀ σ, PassesAt CX X σ (E σ)) (ha : PE X o to) (hb : PE X e te) :
    PE X (.BinOp o op e pos) (tBinI C sp E to te) := by
  refine ⟨fun pins s σ H Q I h => ?_⟩
  refine wpAny_BinOp (thn (ha.run pins s σ H _ I h) fun u s1 ⟨x, H1, I1, rx, q⟩ => thn (hb.run pins s1 σ H1 _ I1 q) fun w s2 ⟨y, H2, I2, ry, a, dx, fs, i, ex, ea, ey, q2⟩ => ?_)
  subst ex
  subst ey
  cases (show u = Value.ref a from rx)
  obtain ⟨od, J⟩ := inst_of I2 ea
  obtain ⟨m', hF⟩ := I2.fr
  obtain ⟨fo, hfo⟩ := T.fo
  obtain ⟨ro, hro⟩ := T.ro
  have ty : typeOf w = pure (Value.type "int") := by
    cases w with
    | int j tk => rfl
    | _ => exact (nomatch ry)
  subst hm
  subst hmr
  exact PySem.W.ksp_binT hF I2.ok.mod.kin J ty T.sf T.at_ T.fn T.rc (.inl rfl) hfo hro T.sub (thn (run_fnRS F hr (hx σ) I2 (.cons rx (.cons ry .nil)) q2) fun _ _ => cmp_back)
def tBinO (C : Addr) (sp : Sp) (E : L2.St → XK) (ta tb : TE) : TE := fun σ H Q => ta σ H fun x H1 => tb σ H1 fun y H2 => ∃ a dx fs b dy gs, x = .ref a ∧ H2 a = some (.ins C dx fs) ∧ y = .ref b ∧ H2 b = some (.ins C dy gs) ∧ sp [x, y] H2 (fun v H' => Pl v ∧ Q v H') (E σ)
/-- o op p, both of one class -/
theorem pe_binO {op : Operator} {m : Str} (T : OpT X.K C m f) (hm : dunder op.info.2 = m) (F : FnR X.prog X.w X.K X.mg X.base CX k f sp) (hr : Room k X.A) (hx : ∀ σ, PassesAt CX X σ (E σ)) (ha : PE X o to) (hb : PE X e te) :
    PE X (.BinOp o op e pos) (tBinO C sp E to te) := by
  refine ⟨fun pins s σ H Q I h => ?_⟩
  refine wpAny_BinOp (thn (ha.run pins s σ H _ I h) fun u s1 ⟨x, H1, I1, rx, q⟩ => thn (hb.run pins s1 σ H1 _ I1 q) fun w s2 ⟨y, H2, I2, ry, a, dx, fs, b, dy, gs, ex, ea, ey, eb, q2⟩ => ?_)
  subst ex
  subst ey
  cases (show u = Value.ref a from rx)
  cases (show w = Value.ref b from ry)
  obtain ⟨od, J⟩ := inst_of I2 ea
  obtain ⟨od2, J2⟩ := inst_of I2 eb
  obtain ⟨m', hF⟩ := I2.fr
  subst hm
  exact PySem.W.binop_K hF I2.ok.mod.kin J J2.type T.sf T.at_ T.fn (thn (run_fnRS F hr (hx σ) I2 (.cons rx (.cons ry .nil)) q2) fun _ _ => cmp_back)
def tUnO (C : Addr) (sp : Sp) (E : L2.St → XK) (ta : TE) : TE := fun σ H Q => ta σ H fun x H1 => ∃ a dx fs, x = .ref a ∧ H1 a = some (.ins C dx fs) ∧ sp [x] H1 Q (E σ)
/-- -o -/
theorem pe_negO (T : OpT X.K C "__neg__" f) (F : FnR X.prog X.w X.K X.mg X.base CX k f sp) (hr : Room k X.A) (hx : ∀ σ, PassesAt CX X σ (E σ)) (ha : PE X o to) :
    PE X (.UnaryOp .USub o pos) (tUnO C sp E to) := by
  refine ⟨fun pins s σ H Q I h => ?_⟩
  refine wpAny_UnaryOp (thn (ha.run pins s σ H _ I h) fun u s1 ⟨x, H1, I1, rx, a, dx, fs, ex, ea, q⟩ => ?_)
  subst ex
  cases (show u = Value.ref a from rx)
  obtain ⟨od, J⟩ := inst_of I1 ea
  obtain ⟨m', hF⟩ := I1.fr
  exact PySem.W.ksp_neg hF I1.ok.mod.kin J T.at_ T.fn (run_fnRS F hr (hx σ) I1 (.cons rx .nil) q)
/-- the body of a def that may raise -/
theorem fnRX_of {P : Program} {w : World} {K : PySem.W.Frag} {mg : Str → Option Value} {base : Heap} {st : Stmt} {N ps : List Str} {k : Nat} {sp : Sp} {f : Addr} {name qual : Str} (D : DefM K name qual st ps f) (S : FnScope N ps (defScope st)) (len : ∀ vs H Q E, sp vs H Q E → vs.length = ps.length)
    (hbody : ∀ (cdv : Value) (A : Around) (outer : List Env) (s : Shared) (H : Hp) (vs : List V) (Q : VK) (E : XK), Room k (A.deeper (envOfC qual (defScope st) s.heap.objs.size f cdv)) → sp vs H Q E →
      ∃ t, PSs (cxOf (L2.CX P w) P w K mg base N qual (defScope st) f cdv A outer s H E) (defBody st) t ∧ t { nx := fun _ H' => Q .non H', rt := Q } (L2.start N vs) H) : FnR P w K mg base (L2.CX P w) (k + 1) f sp := by
  obtain ⟨fd, F, b⟩ := D
  exact ((F.okX S len hbody).raw b .nil).imp fun vs H Q E h => by rw [List.append_nil]; exact h
end

/-! ### over plain data -/
/-- what is raised is wished for -/
def HX (W : Wd) (Γ : Gam) (E : L2.St → XK) (x : Xn → Prop) : Prop := ∀ σ H, GOk W H σ Γ → XOk W H (E σ) x
theorem hx0 {W : Wd} {Γ : Gam} {E : L2.St → XK} : HX W Γ E fun _ => False := fun σ H _ n d H2 _ _ q => q.elim
theorem hx_of {W : Wd} {Γ : Gam} {E : XK} {x : Xn → Prop} (h : ∀ H', W.ok H' → W.wish H' → XOk W H' E x) : HX W Γ (fun _ => E) x := fun σ H G => h H G.ok G.wish
class Pln (α : Type) [Rep α] : Prop where
  at_ : ∀ {W : Wc} {H : Hp} {v : V} {a : α}, den W H v a → Pl v
/-- such data is never NotImplemented -/
def PlnG (α : Type) [Rep α] (G : Prop) : Prop := Pln α ∧ G
theorem plnG_in {α : Type} [Rep α] [i : Pln α] {G : Prop} (h : G) : PlnG α G := ⟨i, h⟩
instance : Pln Int := ⟨fun h => .inr (.inr ⟨_, h⟩)⟩
instance : Pln Bool := ⟨fun h => .inr (.inl ⟨_, h⟩)⟩
instance : Pln Stc := ⟨fun ⟨a, dx, hv, _⟩ => .inl ⟨a, hv⟩⟩
section
variable {W : Wd} {Γ : Gam} {ta : TA} {te tb to : TE} {B : Bs} {P : PT} {E : L2.St → XK} {x : Xn → Prop} {C : Addr}
theorem ev_callZ {α : Type} {rα : Rep α} {k : α → Prop} (hB : W.B = B) (hx : HX W Γ E x) (h : EvA W ta Γ fun ts => P (fun t => ∃ a : α, t = T a ∧ k a) x ts) : EvK W (tCallZ (spG B P) E ta) Γ k := fun σ H Q G c =>
  h σ H _ G fun vs H1 ts e1 d z => ⟨W, ts, _, x, hB, e1.ok, d, z, fun v H2 t e2 dt ⟨a, ea, q⟩ => by
    subst ea
    exact c v H2 a (e1.trans e2) dt q, hx σ H1 (G.ext e1)⟩
/-- the class of such data is at C, m is none of its fields -/
def OwnM (β : Type) [Rep β] (B : Bs) (C : Addr) (m : Str) (G : Prop) : Prop := ∃ c fl, Ins β c fl ∧ B.cl c = C ∧ m ∉ fl ∧ G
theorem ownM_in {β : Type} [Rep β] {c : Cn} {fl : List Str} [i : Ins β c fl] {B : Bs} {C : Addr} {m : Str} {G : Prop} (hC : B.cl c = C) (hm : m ∉ fl) (h : G) : OwnM β B C m G := ⟨c, fl, i, hC, hm, h⟩
theorem look_none {m : Str} : ∀ {fs : List (Str × V)}, m ∉ fs.map (·.1) → fs.lookup m = none
  | [], _ => rfl
  | (y, v) :: r, h => by
    have h1 : ¬ m = y := fun e => h (by rw [e]; exact List.mem_cons_self)
    have h2 : m ∉ r.map (·.1) := fun e => h (List.mem_cons_of_mem _ e)
    have h3 : (m == y) = false := by
      cases q : (m == y) with
      | false => rfl
      | true => exact absurd (eq_of_beq q) h1
    rw [List.lookup_cons, h3]
    exact look_none h2
theorem ev_methZ {α β : Type} {rα : Rep α} {rβ : Rep β} {m : Str} {k : α → Prop} (hB : W.B = B) (hx : HX W Γ E x)
    (h : EvK W to Γ fun s : β => OwnM β B C m (EvA W ta Γ fun ts => P (fun t => ∃ a : α, t = T a ∧ k a) x (T s :: ts))) : EvK W (tMethZ C m (spG B P) E to ta) Γ k := by
  subst hB
  refine fun σ H Q G c => h σ H _ G fun v H1 s e1 d ⟨cc, fl, iβ, hC, hm, z⟩ => ?_
  subst hC
  obtain ⟨p, dp, fs, hv, _, hH, hfl⟩ := iβ.at_ d
  refine ⟨p, dp, fs, hv, hH, look_none (by rw [hfl]; exact hm), ?_⟩
  refine z σ H1 _ (G.ext e1) fun vs H2 ts e2 d2 z2 => ?_
  exact ⟨W, _, _, x, rfl, e2.ok, .cons (t := T s) (Rep.mono e2.keep d) d2, z2, fun v H3 t e3 dt ⟨a, ea, q⟩ => by
    subst ea
    exact c v H3 a ((e1.trans e2).trans e3) dt q, hx σ H2 ((G.ext e1).ext e2)⟩
theorem ev_binI {α β : Type} {rα : Rep α} {rβ : Rep β} {k : α → Prop} (hB : W.B = B) (hx : HX W Γ E x)
    (h : EvK W to Γ fun s : β => EvK W te Γ fun i : Int => OwnG β B C (P (fun t => ∃ a : α, t = T a ∧ PlnG α (k a)) x [T s, T i])) : EvK W (tBinI C (spG B P) E to te) Γ k := by
  subst hB
  refine fun σ H Q G c => h σ H _ G fun v H1 s e1 d h1 => h1 σ H1 _ (G.ext e1) fun u H2 i e2 d2 ⟨cc, fl, iβ, hC, z⟩ => ?_
  subst hC
  have d' := Rep.mono (W := W.toWc) (a := s) e2.keep d
  obtain ⟨p, dp, fs, hv, _, hH, _⟩ := iβ.at_ d'
  exact ⟨p, dp, fs, i, hv, hH, d2, W, _, _, x, rfl, e2.ok, .cons (t := T s) d' (.cons (t := T i) d2 .nil), z, fun v H3 t e3 dt ⟨a, ea, pα, q⟩ => by
    subst ea
    exact ⟨pα.at_ dt, c v H3 a ((e1.trans e2).trans e3) dt q⟩, hx σ H2 ((G.ext e1).ext e2)⟩
theorem ev_binO {α β : Type} {rα : Rep α} {rβ : Rep β} {k : α → Prop} (hB : W.B = B) (hx : HX W Γ E x)
    (h : EvK W to Γ fun s : β => EvK W te Γ fun s2 : β => OwnG β B C (P (fun t => ∃ a : α, t = T a ∧ PlnG α (k a)) x [T s, T s2])) : EvK W (tBinO C (spG B P) E to te) Γ k := by
  subst hB
  refine fun σ H Q G c => h σ H _ G fun v H1 s e1 d h1 => h1 σ H1 _ (G.ext e1) fun u H2 s2 e2 d2 ⟨cc, fl, iβ, hC, z⟩ => ?_
  subst hC
  have d' := Rep.mono (W := W.toWc) (a := s) e2.keep d
  obtain ⟨p, dp, fs, hv, _, hH, _⟩ := iβ.at_ d'
  obtain ⟨p2, dp2, fs2, hv2, _, hH2, _⟩ := iβ.at_ d2
  exact ⟨p, dp, fs, p2, dp2, fs2, hv, hH, hv2, hH2, W, _, _, x, rfl, e2.ok, .cons (t := T s) d' (.cons (t := T s2) d2 .nil), z, fun v H3 t e3 dt ⟨a, ea, pα, q⟩ => by
    subst ea
    exact ⟨pα.at_ dt, c v H3 a ((e1.trans e2).trans e3) dt q⟩, hx σ H2 ((G.ext e1).ext e2)⟩
theorem ev_negO {α β : Type} {rα : Rep α} {rβ : Rep β} {k : α → Prop} (hB : W.B = B) (hx : HX W Γ E x)
    (h : EvK W to Γ fun s : β => OwnG β B C (P (fun t => ∃ a : α, t = T a ∧ k a) x [T s])) : EvK W (tUnO C (spG B P) E to) Γ k := by
  subst hB
  refine fun σ H Q G c => h σ H _ G fun v H1 s e1 d ⟨cc, fl, iβ, hC, z⟩ => ?_
  subst hC
  obtain ⟨p, dp, fs, hv, _, hH, _⟩ := iβ.at_ d
  exact ⟨p, dp, fs, hv, hH, W, _, _, x, rfl, e1.ok, .cons (t := T s) d .nil, z, fun v H3 t e3 dt ⟨a, ea, q⟩ => by
    subst ea
    exact c v H3 a (e1.trans e3) dt q, hx σ H1 (G.ext e1)⟩
/-! built-ins of ints -/
/-- Stretch(lo, hi), in order or not -/
theorem ev_stretchZ {ta tb : TE} {k : Stc → Prop} (hB : W.B = B) (hC : B.cl .Stretch = C) (hx : HX W Γ E x)
    (h : EvK W ta Γ fun lo : Int => EvK W tb Γ fun hi : Int => (lo ≤ hi → k ⟨lo, hi⟩) ∧ (hi < lo → Small lo ∧ Small hi ∧ x ⟨.BadStretch, [("high", .i hi), ("low", .i lo)]⟩)) : EvK W (tMakeZ C (spSIX B) E (tCons ta (tCons tb tNil))) Γ k := by
  subst hB
  subst hC
  refine fun σ H Q G c => h σ H _ G fun v H1 lo e1 d1 h1 => h1 σ H1 _ (G.ext e1) fun u H2 hi e2 d2 ⟨hle, hlt⟩ => ?_
  intro xx dx nx ndx nex
  have o := e2.ok
  have m1 := fresh_mu o ndx
  have m2 := fresh_mu o nx
  have e3 : ∀ o', Ext W H2 (upd (upd H2 dx (.own xx)) xx o') := fun o' => ⟨fun a u _ q => by rw [upd_ne (ne_of_none q nx), upd_ne (ne_of_none q ndx)]; exact q, W.st _ _ _ (W.st _ _ _ o m1) m2⟩
  refine ⟨xx, dx, lo, hi, by cases d1; cases d2; rfl, upd_same, fun hl => ⟨rfl, ?_⟩, fun hl => ?_⟩
  · have okx : W.ok (upd (upd (upd (upd H2 dx (.own xx)) xx (.ins (W.B.cl .Stretch) dx [])) xx (.ins (W.B.cl .Stretch) dx [("low", .int lo)])) xx (.ins (W.B.cl .Stretch) dx (stcF lo hi))) :=
      W.st _ _ _ (W.st _ _ _ (W.st _ _ _ (W.st _ _ _ o m1) m2) m2) m2
    refine c (.ref xx) _ ⟨lo, hi⟩ ((e1.trans e2).trans ⟨fun a u _ q => ?_, okx⟩) ⟨xx, dx, rfl, m2, upd_same⟩ (hle hl)
    have n1 : a ≠ xx := ne_of_none q nx
    have n2 : a ≠ dx := ne_of_none q ndx
    rw [upd_ne n1, upd_ne n1, upd_ne n1, upd_ne n2]
    exact q
  · obtain ⟨s1, s2, xq⟩ := hlt hl
    refine ⟨s1, s2, fun d hd => ?_⟩
    have e4 := (e3 (.ins (W.B.cl .Stretch) dx []))
    have md := fresh_mu e4.ok hd
    exact hx σ H2 ((G.ext e1).ext e2) _ _ _ (e4.trans (Ext.new (o := .xd [("high", .int hi), ("low", .int lo)]) e4.ok hd)) (.inr ⟨d, _, rfl, md, upd_same, .cons (t := .i hi) rfl (.cons (t := .i lo) rfl .nil)⟩) xq
theorem ev_max2 {k : Int → Prop} (h : EvK W te Γ fun i : Int => EvK W tb Γ fun j : Int => k (max i j)) : EvK W (tCB (fun xs H Q => ∃ i j, xs = [.int i, .int j] ∧ Q (.int (if j > i then j else i)) H) (tCons te (tCons tb tNil))) Γ k := fun σ H Q G c =>
  h σ H _ G fun v H1 i e1 d h1 => h1 σ H1 _ (G.ext e1) fun u H2 j e2 d2 z => ⟨i, j, by rw [d, d2], c _ H2 (max i j) (e1.trans e2) (by show V.int _ = V.int _; congr 1; split <;> omega) z⟩
theorem ev_min2 {k : Int → Prop} (h : EvK W te Γ fun i : Int => EvK W tb Γ fun j : Int => k (min i j)) : EvK W (tCB (fun xs H Q => ∃ i j, xs = [.int i, .int j] ∧ Q (.int (if j < i then j else i)) H) (tCons te (tCons tb tNil))) Γ k := fun σ H Q G c =>
  h σ H _ G fun v H1 i e1 d h1 => h1 σ H1 _ (G.ext e1) fun u H2 j e2 d2 z => ⟨i, j, by rw [d, d2], c _ H2 (min i j) (e1.trans e2) (by show V.int _ = V.int _; congr 1; split <;> omega) z⟩
theorem ev_abs {k : Int → Prop} (h : EvK W te Γ fun i : Int => k (i.natAbs : Int)) : EvK W (tCB (fun xs H Q => ∃ i, xs = [.int i] ∧ Q (.int (if i < 0 then -i else i)) H) (tCons te tNil)) Γ k := fun σ H Q G c =>
  h σ H _ G fun v H1 i e1 d z => ⟨i, by rw [d], c _ H1 (i.natAbs : Int) e1 (by show V.int _ = V.int _; congr 1; split <;> omega) z⟩
theorem ev_sortedI {K : PySem.W.Frag} {k : List Int → Prop} (hK : W.B.K = K) (h : EvK W te Γ fun as : List Int => ∀ bs : List Int, bs.Perm as → bs.Pairwise (· ≤ ·) → k bs) : EvK W (tCB (rSortedI K) (tCons te tNil)) Γ k := by
  subst hK
  refine fun σ H Q G c => h σ H _ G fun v H1 as e1 ⟨p, vs, hv, hp, hd⟩ z => ?_
  obtain rfl := hd.ints
  refine ⟨p, as, by rw [hv], hp.sq, fun bs q hpm hpw hq => ?_⟩
  have e2 := Ext.new (o := .lst (bs.map V.int)) e1.ok hq
  exact c _ _ bs (e1.trans e2) ⟨q, _, rfl, Lq.new (fresh_mu e1.ok hq) upd_same, Dl.of_ints bs⟩ (z bs hpm hpw)
/-! isinstance of own classes -/
structure IsT (K : PySem.W.Frag) (C : Addr) : Prop where
  c : Cls K C
  f : PySem.W.findIn K (.ref C) "__class__" = some (some (.builtin "object.__class__"))
  s : PySem.W.specialIn K (.builtin "object.__class__") "__get__" = some (some (.builtin "getset_descriptor.__get__"))
  t : PySem.W.takesIn K (.builtin "object.__class__") = some true
  m : PySem.W.mroIn K C (.type "object") = some true
theorem kit_self {K : PySem.W.Frag} {C : Addr} : PySem.W.kitOne K (.ref C) (.ref C) = some true := by
  show (if (Value.ref C == Value.ref C) = true then some true else _) = some true
  rw [if_pos (beq_self_eq_true _)]
theorem ev_isiO {β : Type} {rβ : Rep β} {K : PySem.W.Frag} {C2 : Addr} {k : Bool → Prop} (hK : W.B.K = K) (h : EvK W te Γ fun _ : β => ∃ c fl b, Ins β c fl ∧ IsT K (W.B.cl c) ∧ PySem.W.kitOne K (.ref (W.B.cl c)) (.ref C2) = some b ∧ k b) :
    EvK W (tCB (rIsi K) (tCons te (tCons (tC (.ref C2)) tNil))) Γ k := by
  subst hK
  refine fun σ H Q E q => h σ H _ E fun v H1 a e1 d ⟨c, fl, b, i, T, hb, z⟩ => ?_
  obtain ⟨p, dp, fs, hv, _, hH, _⟩ := i.at_ d
  subst hv
  exact ⟨.ref p, .ref C2, _, _, b, rfl, .own C2, .base (.ins hH T.c T.f T.s T.t T.m), hb, q _ H1 b e1 rfl z⟩
end
/-! ### raise, try -/
/-- __init__ of an error: sh says which fields it gets from its arguments -/
def spEr (C : Addr) (sh : List V → List (Str × V) → Prop) : Sp := fun vs H Q E => ∃ a as fs, vs = .ref a :: as ∧ sh as fs ∧ H a = some (exo a C none) ∧
  ∀ d H2, H d = none → d ≠ a → H2 a = some (exo a C (some d)) → H2 d = some (exd d fs) → (∀ b, b ≠ a → b ≠ d → H2 b = H b) → Q .non H2
/-- sh over plain data -/
def ShT (sh : List V → List (Str × V) → Prop) (ts : List Ty) (fs : List (Str × Fv)) : Prop := ts.length ≤ 1000 ∧ ∀ (W : Wc) (H : Hp) vs, DT W H vs ts → ∃ gs, sh vs gs ∧ DF W H gs fs
section
variable {W : Wd} {Γ : Gam} {ta : TA} {te tb to : TE} {x : Xn → Prop} {C : Addr} {R : Po}
theorem sx_raise {c : Cn} {sh : List V → List (Str × V) → Prop} {Wx : WX} {B : Bs} (hB : W.B = B) (hC : B.cl c = C) (hx : HX W Γ (WE Wx) x) (h : EvA W ta Γ fun ts => ∃ fs, ShT sh ts fs ∧ x ⟨c, fs⟩) :
    Sx W (fun _ σ H => tMkO C (spEr C sh) [] ta σ H fun cls d H' => Wx cls d σ H') Γ R := by
  subst hB
  subst hC
  refine fun D σ H G O => h σ H _ G fun vs H1 ts e1 d ⟨fs, ⟨hl, hs⟩, xq⟩ => ⟨by rw [d.length]; exact hl, fun a ha => ?_⟩
  obtain ⟨gs, hsh, hdf⟩ := hs W.toWc H1 vs d
  refine ⟨a, vs ++ [], gs, rfl, by rw [List.append_nil]; exact hsh, upd_same, fun dd H2 hd hda h1 h2 h3 => ⟨rfl, dd, gs, h1, h2, ?_, ?_⟩⟩
  · rw [upd_ne hda] at hd
    exact hd
  · rw [upd_ne hda] at hd
    have e : upd (del H2 a) dd (.xd gs) = upd H1 dd (.xd gs) := by
      funext b
      by_cases hb : b = dd
      · subst hb
        rw [upd_same, upd_same]
      · rw [upd_ne hb, upd_ne hb]
        by_cases hba : b = a
        · subst hba
          rw [del_same, ha]
        · rw [del_ne hba, h3 b hba hb, upd_ne hba]
    rw [e]
    have e2 := Ext.new (o := .xd gs) e1.ok hd
    exact hx σ H1 (G.ext e1) ⟨c, fs⟩ (some dd) _ e2 (.inr ⟨dd, gs, rfl, fresh_mu e1.ok hd, upd_same, hdf.imp fun _ _ z => Fv.mono e2.keep z⟩) xq
/-- W with what is wished of errors in a try -/
def Wd.tr (W : Wd) (Γ : Gam) (Ew : L2.St → XK) (x : Xn → Prop) : Wd where
  toWc := W.toWc
  ok := W.ok
  live := W.live
  st := W.st
  wish := fun H => W.wish H ∧ ∀ (σ : L2.St) (n : Xn) (d : Option Addr) (H2 : Hp), Ext W H H2 → GOk W H2 σ Γ → xden W.toWc H2 d n.fs → x n → Ew σ (.ref (W.B.cl n.c)) d H2
  wst := fun H H' k o w => ⟨W.wst H H' k o w.1, fun σ n d H2 e => w.2 σ n d H2 ⟨fun a u m z => e.keep a u m (k a u m z), e.ok⟩⟩
  hasbox := W.hasbox
  boxset := W.boxset
  boxmu := W.boxmu
  oke := W.oke
theorem GOk.untr {W : Wd} {H : Hp} {σ : L2.St} {Γ Γ' : Gam} {Ew : L2.St → XK} {x : Xn → Prop} (G : GOk (W.tr Γ' Ew x) H σ Γ) : GOk W H σ Γ := ⟨G.ok, G.wish.1, G.at_, G.len⟩
theorem Ext.untr {W : Wd} {H H' : Hp} {Γ' : Gam} {Ew : L2.St → XK} {x : Xn → Prop} (e : Ext (W.tr Γ' Ew x) H H') : Ext W H H' := ⟨e.keep, e.ok⟩
def tTry (K : PySem.W.Frag) (c : Value) (i : Nat) (tb : WX → TS) (ts : Addr → Value → Option Addr → TS) (Wout : WX) : TS := fun D σ H => tb (wAs K c i ts Wout D) D σ H
theorem ps_tryZ {X : Cx} {y n : Str} {c : Value} {i : Nat} {body suite : List Stmt} {b₀ : Stmt} {np pos pos' : Pos} {tb : WX → TS} {ts : Addr → Value → Option Addr → TS} {Wout : WX} (K : PySem.W.Frag) (hs : X.stack = X.env :: X.outer) (hf : X.env.frame = some X.env.locals) (hN : X.N.Nodup) (hi : X.N[i]? = some n) (hln : X.env.kindOf n = some .local) (hc : Names X y c) (tk : Takes X Wout)
    (hb : ∀ (W : WX) (pn : List (Addr × Obj)) (xe : Value → Shared → Prop), Takes (X.tr pn xe) W → PassesOwn (model X.prog X.w) X.A X.env xe → PSs (X.tr pn xe) body (tb W))
    (hsu : ∀ (a : Addr) (oe : Obj) (cls : Value) (d : Option Addr) (pn : List (Addr × Obj)), Zc cls d oe → (∃ vs, oe.data = .fields vs) → PSs (X.suite a ((a, oe) :: pn)) (b₀ :: suite) (ts a cls d)) (hK : X.K = K := by rfl) :
    PS X (.Try body [.ExceptHandler (some (.Name y np)) (some n) (b₀ :: suite) pos'] [] [] pos) (tTry K c i tb ts Wout) := by subst hK; exact ps_try_as hs hf hN hi hln hc tk hb hsu
/-- try: .. except c as n (slot i): .. -/
theorem sx_try {K : PySem.W.Frag} {c : Value} {i : Nat} {tb : WX → TS} {ts : Addr → Value → Option Addr → TS} {Wout : WX} (x : Xn → Prop)
    (hb : ∀ (W' : Wd) (Wx : WX), W'.B = W.B → HX W' Γ (WE Wx) x → Sx W' (tb Wx) Γ R)
    (hs : ∀ a d n, x n → PySem.W.exmOne K (.ref (W.B.cl n.c)) c = some true ∧ Sx W (ts a (.ref (W.B.cl n.c)) d) (Γ.set i (some (T (Er.mk a d n)))) { nx := fun Γ' => R.nx (Γ'.set i none), rt := R.rt, bk := fun Γ' => R.bk (Γ'.set i none), ct := fun Γ' => R.ct (Γ'.set i none) }) :
    Sx W (tTry K c i tb ts Wout) Γ R := fun D σ H G O => by
  have key : ∀ σ n d H2, Ext W H H2 → GOk W H2 σ Γ → xden W.toWc H2 d n.fs → x n → WE (wAs K c i ts Wout D) σ (.ref (W.B.cl n.c)) d H2 := by
    intro σ n d H2 e G2 xd xn
    obtain ⟨h1, _⟩ := hs 0 d n xn
    refine ⟨true, h1, fun _ a ha => ?_, fun q => Bool.noConfusion q⟩
    refine (hs a d n xn).2 _ _ H2 (G2.set i (t := T (Er.mk a d n)) ⟨rfl, xd⟩) ⟨fun σ' H' Γ' e' G' q => ?_, fun v H' t e' dv q => ?_, fun σ' H' Γ' e' G' q => ?_, fun σ' H' Γ' e' G' q => ?_⟩
    · exact O.nx _ H' _ (e.trans e') (G'.unset i) q
    · exact O.rt v H' t (e.trans e') dv q
    · exact O.bk _ H' _ (e.trans e') (G'.unset i) q
    · exact O.ct _ H' _ (e.trans e') (G'.unset i) q
  refine hb (W.tr Γ (WE (wAs K c i ts Wout D)) x) _ rfl (fun σ' H' G' n d H2 e xd xn => ?_) D σ H ⟨G.ok, ⟨G.wish, key⟩, G.at_, G.len⟩ ⟨fun σ' H' Γ' e' G' q => O.nx σ' H' Γ' e'.untr G'.untr q, fun v H' t e' dv q => O.rt v H' t e'.untr dv q, fun σ' H' Γ' e' G' q => O.bk σ' H' Γ' e'.untr G'.untr q, fun σ' H' Γ' e' G' q => O.ct σ' H' Γ' e'.untr G'.untr q⟩
  exact G'.wish.2 σ' n d H2 e.untr (G'.untr.ext e.untr) xd xn
/-- e.f of an error in hand -/
theorem ev_xfI {a : Addr} {cls : Value} {d : Option Addr} {f : Str} {k : Int → Prop} (hC : cls = .ref C) (h : EvK W te Γ fun e : Er => (e.a = a ∧ e.d = d) ∧ ∃ z : Int, e.n.fs.lookup f = some (.i z) ∧ k z) : EvK W (tXf a cls d C f te) Γ k := by
  refine fun σ H Q E c => h σ H _ E fun v H1 e e1 ⟨hv, xd⟩ ⟨⟨ha, hd⟩, z, hf, q⟩ => ?_
  subst ha
  subst hd
  rcases xd with ⟨h0, _⟩ | ⟨dd, vs, h1, _, h3, h4⟩
  · rw [h0] at hf
    cases hf
  · obtain ⟨v, hv2, dv⟩ := h4.at hf
    exact ⟨hv, hC, dd, vs, v, h1, h3, hv2, c v H1 z e1 dv q⟩
theorem ev_xfP {a : Addr} {cls : Value} {d : Option Addr} {f : Str} {k : Int × Int → Prop} (hC : cls = .ref C) (h : EvK W te Γ fun e : Er => (e.a = a ∧ e.d = d) ∧ ∃ z w : Int, e.n.fs.lookup f = some (.p z w) ∧ k (z, w)) : EvK W (tXf a cls d C f te) Γ k := by
  refine fun σ H Q E c => h σ H _ E fun v H1 e e1 ⟨hv, xd⟩ ⟨⟨ha, hd⟩, z, w, hf, q⟩ => ?_
  subst ha
  subst hd
  rcases xd with ⟨h0, _⟩ | ⟨dd, vs, h1, _, h3, h4⟩
  · rw [h0] at hf
    cases hf
  · obtain ⟨v, hv2, dv⟩ := h4.at hf
    exact ⟨hv, hC, dd, vs, v, h1, h3, hv2, c v H1 (z, w) e1 dv q⟩
end
theorem huM {k : Nat} {A : Around} {m : Option Value} (h : Room k A) : (A.mark m).units + 64 < cLine := h.units
section
variable {W : Wd} {Γ : Gam} {te : TE} {t u : TS} {R : Po} {g : TG}
theorem sx_seqA (h : Sx W (tAsg te g) Γ { R with nx := fun Γ' => Sx W u Γ' R }) : Sx W (tSeq (tAsg te g) u) Γ R := sx_seq h
theorem sx_seqD (h : Sx W (tDrop te) Γ { R with nx := fun Γ' => Sx W u Γ' R }) : Sx W (tSeq (tDrop te) u) Γ R := sx_seq h
theorem Sx.imp {R' : Po} (h : Sx W t Γ R') (n : ∀ Γ', R'.nx Γ' → R.nx Γ') (r : ∀ v, R'.rt v → R.rt v) (b : ∀ Γ', R'.bk Γ' → R.bk Γ') (c : ∀ Γ', R'.ct Γ' → R.ct Γ') : Sx W t Γ R := fun D σ H G O =>
  h D σ H G ⟨fun a b' d e f q => O.nx a b' d e f (n _ q), fun a b' d e f q => O.rt a b' d e f (r _ q), fun a b' d e f q => O.bk a b' d e f (b _ q), fun a b' d e f q => O.ct a b' d e f (c _ q)⟩
theorem sx_seqI (I : Gam → Prop) (h : Sx W t Γ { R with nx := I }) (k : ∀ Γ', I Γ' → Sx W u Γ' R) : Sx W (tSeq t u) Γ R := sx_seq (h.imp k (fun _ q => q) (fun _ q => q) fun _ q => q)
end
/-! ### texts -/
/-- the parts of an f-string, no heap changed -/
inductive JP (σ : L2.St) (H : Hp) : List TE → Nat → Prop
  | nil : JP σ H [] 0
  | cons {t : TE} {y : Str} {ts : List TE} {n : Nat} : (∀ Q : VK, Q (.str y) H → t σ H Q) → y.length ≤ 3000 → JP σ H ts n → JP σ H (t :: ts) (n + 1)
theorem js_ok {σ : L2.St} {H : Hp} {Q : Str → Hp → Prop} (k : ∀ out, Q out H) : ∀ {ts : List TE} {n : Nat} {acc : Str}, JP σ H ts n → acc.length + 3000 * n ≤ 100000 → tJs ts acc σ H Q
  | _, _, acc, .nil, _ => k acc
  | _, _, acc, .cons (y := y) (n := n) h hl r, hb => by
    have h2 := Str.length_append acc y
    exact h _ ⟨y, rfl, by unfold sizeLine; omega, js_ok k r (by omega)⟩
theorem Small.of {i : Int} (h1 : -1000000000000000000000000000000 ≤ i) (h2 : i ≤ 1000000000000000000000000000000) : Small i := by
  refine small_of (Nat.lt_of_le_of_lt (m := 1000000000000000000000000000000) (by omega) (by decide))
theorem mko_out {H H2 : Hp} {a d : Addr} {o : HO} {gs : List (Str × V)} (ha : H a = none) (hd : upd H a o d = none) (hda : d ≠ a) (h3 : ∀ b, b ≠ a → b ≠ d → H2 b = upd H a o b) : H d = none ∧ upd (del H2 a) d (.xd gs) = upd H d (.xd gs) := by
  refine ⟨by rw [upd_ne hda] at hd; exact hd, ?_⟩
  funext b
  by_cases hb : b = d
  · subst hb
    rw [upd_same, upd_same]
  · rw [upd_ne hb, upd_ne hb]
    by_cases hba : b = a
    · subst hba
      rw [del_same, ha]
    · rw [del_ne hba, h3 b hba hb, upd_ne hba]
/-- raise of an error with fields, raw -/
theorem raw_raise {C : Addr} {sh : List V → List (Str × V) → Prop} {ta : TA} {σ : L2.St} {H : Hp} {Q : XK} {vs : List V} {gs : List (Str × V)} (ht : ∀ K : List V → Hp → Prop, K vs H → ta σ H K) (hl : vs.length ≤ 1000) (hs : sh vs gs) (k : ∀ d, H d = none → Q (.ref C) (some d) (upd H d (.xd gs))) : tMkO C (spEr C sh) [] ta σ H Q :=
  ht _ ⟨hl, fun a ha => ⟨a, vs ++ [], gs, rfl, by rw [List.append_nil]; exact hs, upd_same, fun d H2 hd hda h1 h2 h3 => by
    obtain ⟨n, e⟩ := mko_out (gs := gs) ha hd hda h3
    exact ⟨rfl, d, gs, h1, h2, n, by rw [e]; exact k d n⟩⟩⟩
theorem isO_self {β : Type} [Rep β] {c : Cn} {fl : List Str} [i : Ins β c fl] {K : PySem.W.Frag} {B : Bs} {C2 : Addr} {k : Bool → Prop} (hT : IsT K (B.cl c)) (hC : B.cl c = C2) (h : k true) : ∃ (c : Cn) (fl : List Str) (b : Bool), Ins β c fl ∧ IsT K (B.cl c) ∧ PySem.W.kitOne K (.ref (B.cl c)) (.ref C2) = some b ∧ k b :=
  ⟨c, fl, true, i, hT, by rw [hC]; exact kit_self, h⟩
theorem isT_of {K : PySem.W.Frag} {W : Wd} {B : Bs} {c : Cn} (h : W.B = B) (t : IsT K (B.cl c)) : IsT K (W.B.cl c) := h ▸ t
theorem cl_of {W : Wd} {B : Bs} {c : Cn} {C : Addr} (h : W.B = B) (t : B.cl c = C) : W.B.cl c = C := h ▸ t
theorem xcl_of {W : Wd} {B : Bs} {c : Cn} {C : Addr} (h : W.B = B) (t : B.cl c = C) : Value.ref (W.B.cl c) = Value.ref C := by rw [h, t]
theorem exm_at {K : PySem.W.Frag} {W : Wd} {B : Bs} {c : Cn} {S C : Addr} (h : W.B = B) (hc : B.cl c = C) (t : PySem.W.exmOne K (.ref C) (.ref S) = some true) : PySem.W.exmOne K (.ref (W.B.cl c)) (.ref S) = some true := by rw [h, hc]; exact t
theorem perm_sum {l1 l2 : List Int} (h : l1.Perm l2) : l1.foldr (· + ·) 0 = l2.foldr (· + ·) 0 := by
  induction h with
  | nil => rfl
  | cons x _ ih => simp only [List.foldr_cons]; rw [ih]
  | swap x y l => simp only [List.foldr_cons]; omega
  | trans _ _ ih1 ih2 => exact ih1.trans ih2
/-- the middle one of three -/
theorem med3 {a b c : Int} {bs : List Int} (h : a ≤ b) (hp : bs.Perm [a, c, b]) (hs : bs.Pairwise (· ≤ ·)) : atI bs 1 = some (max a (min b c)) := by
  have hl := hp.length_eq
  match bs, hl with
  | [x, y, z], _ =>
    simp only [List.pairwise_cons, List.mem_cons, List.not_mem_nil, or_false] at hs
    obtain ⟨h1, h2, _⟩ := hs
    have hxy : x ≤ y := h1 y (.inl rfl)
    have hyz : y ≤ z := h2 z rfl
    have ha : a ∈ [x, y, z] := hp.symm.subset (by simp)
    have hb : b ∈ [x, y, z] := hp.symm.subset (by simp)
    have hc : c ∈ [x, y, z] := hp.symm.subset (by simp)
    have hx : x ∈ [a, c, b] := hp.subset (by simp)
    have hy : y ∈ [a, c, b] := hp.subset (by simp)
    have hz : z ∈ [a, c, b] := hp.subset (by simp)
    have hsum : x + (y + (z + 0)) = a + (c + (b + 0)) := by
      exact perm_sum hp
    simp only [List.mem_cons, List.not_mem_nil, or_false] at ha hb hc hx hy hz
    show some y = some _
    congr 1
    omega
theorem fmt_int {σ : L2.St} {H : Hp} {te : TE} {i : Int} (h : ∀ Q : VK, Q (.int i) H → te σ H Q) (s : Small i) : ∀ Q : VK, Q (.str (toString i)) H → tFmt te σ H Q := fun Q q => h _ (.inr ⟨i, rfl, s, q⟩)
theorem txt_len {i : Int} (s : Small i) : (Str.ofString (toString i)).length ≤ 3000 := by
  have h := PySem.int_text_length_le (a := i) (k := 1920) (by decide) s
  rw [PySem.ofString_length]
  omega
section
variable {W : Wd} {Γ : Gam} {te tb to : TE}
/-- an f-string over plain data -/
def EvJ (W : Wd) (ts : List TE) (Γ : Gam) (acc : Str) (k : Str → Prop) : Prop := ∀ σ H (Q : Str → Hp → Prop), GOk W H σ Γ → (∀ out H', Ext W H H' → k out → Q out H') → tJs ts acc σ H Q
theorem ev_joined {ts : List TE} {k : Str → Prop} (h : EvJ W ts Γ Str.empty k) : EvK W (fun σ H Q => tJs ts Str.empty σ H fun out H1 => Q (.str out) H1) Γ k := fun σ H Q G c => h σ H _ G fun out H1 e q => c _ H1 out e rfl q
theorem ej_nil {acc : Str} {k : Str → Prop} (q : k acc) : EvJ W [] Γ acc k := fun σ H Q G c => c acc H (Ext.refl G.ok) q
theorem ej_cons {t : TE} {ts : List TE} {acc : Str} {k : Str → Prop} (h : EvK W t Γ fun y : Str => (acc ++ y).length ≤ 1000000 ∧ EvJ W ts Γ (acc ++ y) k) : EvJ W (t :: ts) Γ acc k := fun σ H Q G c =>
  h σ H _ G fun v H1 y e d ⟨hl, z⟩ => ⟨y, d, Nat.le_trans hl (by decide), z σ H1 _ (G.ext e) fun out H2 e2 q => c out H2 (e.trans e2) q⟩
theorem ev_fmtI {k : Str → Prop} (h : EvK W te Γ fun i : Int => Small i ∧ k (toString i)) : EvK W (tFmt te) Γ k := fun σ H Q G c =>
  h σ H _ G fun v H1 i e d ⟨s, q⟩ => .inr ⟨i, d, s, c _ H1 _ e rfl q⟩
theorem ev_fmtS {k : Str → Prop} (h : EvK W te Γ fun y : Str => y.length ≤ 1000000 ∧ k y) : EvK W (tFmt te) Γ k := fun σ H Q G c =>
  h σ H _ G fun v H1 y e d ⟨s, q⟩ => .inl ⟨y, d, Nat.le_trans s (by decide), c _ H1 y e rfl q⟩
end
/-! ### __init__ of errors -/
theorem err_one {K : PySem.W.Frag} {C a : Addr} {f1 : Str} {x : V} {D : Ends} {σ : L2.St} {H : Hp} {first : TE} (T : OexC K C) (n1 : PySem.W.findIn K (.ref C) f1 = some none) (h0 : σ[0]? = some (some (.ref a))) (h1 : σ[1]? = some (some x))
    (hF : ∀ Q : VK, Q .non H → first σ H Q) (ha : H a = some (exo a C none)) (k : ∀ d H2, H d = none → d ≠ a → H2 a = some (exo a C (some d)) → H2 d = some (exd d [(f1, x)]) → (∀ b, b ≠ a → b ≠ d → H2 b = H b) → D.nx σ H2) :
    tSeq (tDrop first) (tOst K f1 (tVar 0) (tVar 1)) D σ H := by
  refine hF _ ⟨x, h1, .ref a, h0, a, C, rfl, T, n1, .inl ⟨ha, fun d hd hda => ?_⟩⟩
  exact k d _ hd hda upd_same (by rw [upd_ne hda]; exact upd_same) fun b hb hb2 => by rw [upd_ne hb, upd_ne hb2]
theorem err_two {K : PySem.W.Frag} {C a : Addr} {f1 f2 : Str} {x y : V} {D : Ends} {σ : L2.St} {H : Hp} {first : TE} (T : OexC K C) (n1 : PySem.W.findIn K (.ref C) f1 = some none) (n2 : PySem.W.findIn K (.ref C) f2 = some none) (h0 : σ[0]? = some (some (.ref a))) (h1 : σ[1]? = some (some x)) (h2 : σ[2]? = some (some y))
    (hF : ∀ Q : VK, Q .non H → first σ H Q) (ha : H a = some (exo a C none)) (k : ∀ d H2, H d = none → d ≠ a → H2 a = some (exo a C (some d)) → H2 d = some (exd d [(f2, y), (f1, x)]) → (∀ b, b ≠ a → b ≠ d → H2 b = H b) → D.nx σ H2) :
    tSeq (tDrop first) (tSeq (tOst K f1 (tVar 0) (tVar 1)) (tOst K f2 (tVar 0) (tVar 2))) D σ H := by
  refine hF _ ⟨x, h1, .ref a, h0, a, C, rfl, T, n1, .inl ⟨ha, fun d hd hda => ?_⟩⟩
  refine ⟨y, h2, .ref a, h0, a, C, rfl, T, n2, .inr ⟨d, [(f1, x)], upd_same, by rw [upd_ne hda]; exact upd_same, by show 1 ≤ 900; decide, ?_⟩⟩
  exact k d _ hd hda (by rw [upd_ne (Ne.symm hda)]; exact upd_same) upd_same fun b hb hb2 => by rw [upd_ne hb2, upd_ne hb, upd_ne hb2]
/-- GaugeError.__init__(self, text) -/
theorem first_ge {K : PySem.W.Frag} {C a : Addr} {σ : L2.St} {H : Hp} {J : TE} (T : OexC K C) (h0 : σ[0]? = some (some (.ref a))) (ha : H a = some (exo a C none)) (hJ : ∀ Q : VK, (∀ y, Q (.str y) H) → J σ H Q) : ∀ Q : VK, Q .non H → tVeI K (tCons (tVar 0) (tCons J tNil)) σ H Q := fun Q q =>
  ⟨_, h0, hJ _ fun y => ⟨a, C, _, rfl, by show 1 ≤ 1000; decide, T, ha, q⟩⟩
theorem var_is {σ : L2.St} {H : Hp} {i : Nat} {v : V} (h : σ[i]? = some (some v)) : ∀ Q : VK, Q v H → tVar i σ H Q := fun Q q => ⟨v, h, q⟩
theorem c_is {σ : L2.St} {H : Hp} {v : V} : ∀ Q : VK, Q v H → tC v σ H Q := fun Q q => q
/-- an error of the class at E is what «except S» names -/
theorem exm_of {K : PySem.W.Frag} {E S : Addr} (h1 : PySem.W.subIn K (.ref S) (.type "BaseException") = some true) (h2 : PySem.W.isClsIn K S = true) (h3 : PySem.W.typeIn K (.ref S) = some (.type "type")) (h4 : PySem.W.subIn K (.ref E) (.ref S) = some true) :
    PySem.W.exmOne K (.ref E) (.ref S) = some true := by
  have e1 : (PySem.W.subIn K (.ref S) (.type "BaseException") == some true) = true := by rw [h1] <;> rfl
  have e2 : ((PySem.W.clsIn K S).isSome && PySem.W.typeIn K (.ref S) == some (.type "type")) = true := by
    have h2' : (PySem.W.clsIn K S).isSome = true := h2
    rw [h2', h3] <;> rfl
  show (if (PySem.W.subIn K (.ref S) (.type "BaseException") == some true) = true then (if ((PySem.W.clsIn K S).isSome && PySem.W.typeIn K (.ref S) == some (.type "type")) = true then PySem.W.subIn K (.ref E) (.ref S) else none) else none) = some true
  rw [if_pos e1, if_pos e2]
  exact h4
end G
set_option maxRecDepth 100000
set_option maxHeartbeats 400000
set_option Elab.async false
set_option linter.all false
namespace G
open PySem PySem.Spec PyProof.Rows L2
theorem class_find {K : PySem.W.Frag} {D : Addr} {od : Option Obj} {name : Str} {a g : Value} (hd : PySem.W.hasDictIn K D = true) (ha : PySem.W.findIn K (.ref D) name = some (some a)) (hn : PySem.W.specialIn K a "__get__" = some (some g)) (ht : PySem.W.takesIn K a = some true) :
    PySem.W.findObj K D od name = some (.bind g a) := by
  unfold PySem.W.hasDictIn at hd
  cases hc : PySem.W.clsIn K D with
  | none => rw [hc] at hd; cases hd
  | some cd =>
    unfold PySem.W.findObj
    rw [hc, Option.bind_some, ha, Option.bind_some]
    show (PySem.W.specialIn K a "__get__").bind _ = _
    rw [hn, Option.bind_some]
    show (PySem.W.takesIn K a).bind _ = _
    rw [ht, Option.bind_some]
theorem chk1 : builtinKind "BaseException.__getattribute__" = some Manifest.AttrKind.slot := PySem.W.kin_classE._proof_2
theorem chk2 : splitId "BaseException.__getattribute__" = some ("BaseException", "__getattribute__") := PySem.W.kin_classE._proof_3
theorem chk3 (x : Addr) (v : Value) : argsOk "BaseException.__getattribute__" { pos := Value.ref x :: [v], kw := [] } := F.args_bexc_ga _ _
theorem chk_aux {M : Model} {A : Around} {E : Value → Shared → Prop} {s : Shared} {x : Addr} {v : Value} {Q : Unit → Shared → Prop} (hi : PySem.W.Looks M s.heap (isInstance (.ref x) (.type "BaseException")) true) (q : Q () s) :
    wpAny M A (checkBuiltinCall "BaseException.__getattribute__" { pos := [.ref x, v] }) Q E s := by
  have := @PySem.W.check_slot M A E s "BaseException.__getattribute__" "BaseException" "__getattribute__" (.ref x) [v] [] Q chk1 chk2 hi (chk3 x v) q
  exact this
theorem exc_class {prog : Program} {w : World} {A : Around} {E : Value → Shared → Prop} {s : Shared} {K : PySem.W.Frag} {x D : Addr} {ox : Obj} {od : Option Obj} {Q : Option Value → Shared → Prop}
    (T : ExcC K D) (X : K.In s.heap) (J : PySem.W.InstAt s.heap x ox D od) (q : Q (some (.ref D)) { heap := s.heap, gens := s.gens, drawn := s.drawn, toks := s.toks + 1, os := s.os }) :
    wpAny (model prog w) A (getAttr? (.ref x) "__class__") Q E s := by
  obtain ⟨h, g, d, t, os⟩ := s
  have hf := class_find (od := od) T.hd T.ha T.hn T.ht
  have e1 : (onTheHeap (Value.ref D) && (Value.builtin "BaseException.__getattribute__" == Value.builtin "object.__getattribute__")) = false := by
    rw [show (Value.builtin "BaseException.__getattribute__" == Value.builtin "object.__getattribute__") = false by decide +kernel, Bool.and_false]
  unfold getAttr?
  refine wpAny_bind (wpAny_mkText ?_)
  unfold getAttrBy?
  refine wpAny_bind (wpAny_attempt ?_)
  unfold getAttrBy
  refine wpAny_holding (wpAny_bind (PySem.W.Looks.at J.type (wpAny_bind (PySem.W.Looks.at (PySem.W.looks_findIn X T.hg) ?_))))
  show wpAny _ _ (if (onTheHeap (Value.ref D) && (Value.builtin "BaseException.__getattribute__" == Value.builtin "object.__getattribute__")) = true then getAttrEveryday _ _ _ else getAttrByItsOwn _ _ _ _ _ _) _ _ _
  rw [e1, if_neg Bool.false_ne_true]
  unfold getAttrByItsOwn
  refine wpAny_bind (PySem.W.Looks.at (t := hookBefore (.ref D)) (show PySem.W.Looks _ _ (typeLookup (.ref D) "__getattr__") none from PySem.W.looks_findIn X T.hk) ?_)
  refine wpAny_bind (wpAny_attempt (wpAny_holding ?_))
  show wpAny _ _ (boundAndCalled _ _ _) _ _ _
  unfold boundAndCalled
  refine wpAny_bind (wpAny_of_eq ((ExcAttrFacts.ga F.excAttr_ValueError).bind _) ?_)
  show wpAny _ _ (call (.builtin "BaseException.__getattribute__") [.ref x, .str "__class__" t]) _ _ _
  refine wpAny_call ?_
  have hi : PySem.W.Looks (model prog w) h (isInstance (.ref x) (.type "BaseException")) true := PySem.W.Looks.andThen J.type (PySem.W.looks_subIn X T.hs)
  refine codeAny_call_builtin (b := Builtin.«object.__getattribute__») (Slot.plain (ExcAttrFacts.ga F.excAttr_ValueError)) F.entry_bexc_ga ?_
  refine chk_aux hi ?_
  unfold Builtin.«object.__getattribute__»
  refine wpAny_bind (wpAny_of_eq (a := (Value.ref x, [Value.str "__class__" t])) rfl ?_)
  refine wpAny_bind (wpAny_of_eq (a := ("__class__" : Str)) rfl ?_)
  refine wpAny_bind (PySem.W.Looks.at J.type (wpAny_bind (PySem.W.Looks.at (PySem.W.looks_find X J hf) ?_)))
  show wpAny _ _ (do let v ← holding [Value.builtin "object.__class__"] (call (.builtin "getset_descriptor.__get__") [.builtin "object.__class__", .ref x, .ref D]); ret v) _ _ _
  refine wpAny_bind (wpAny_holding (wpAny_call (PySem.W.class_get X J T.hm ?_)))
  show wpAny _ _ (ret (Value.ref D)) _ _ _
  refine wpAny_of_eq (a := Fin.done (.ret (.ref D))) rfl ?_
  show wpAny _ _ (handedOut (.ref D)) _ _ _
  refine wpAny_of_eq (a := Value.ref D) rfl ?_
  refine wpAny_of_eq (a := some (Value.ref D)) rfl ?_
  exact q
theorem kitx_excF (s0 : Shared) {K : PySem.W.Frag} {x D : Addr} {ox : Obj} {od : Option Obj} (T : ExcC K D) : PySem.W.KitX K (.ref x) (.ref D) fun h => PySem.W.InstAt h x ox D od :=
  ⟨fun M h X J => J.type, fun M h X J => PySem.W.mc_isType (s := { s0 with heap := h }) X T.hd, (PySem.W.handS_kitx_exc (x := x) (ox := ox) T.hg T.hk T.hs T.hd T.ha T.hn T.ht T.hm).ne, fun X J q => exc_class T X J q⟩
/-- isinstance(e, c) of the error in hand, with or without a dict -/
def rIsF (K : PySem.W.Frag) (cls : Value) (d : Option Addr) (a : Addr) : List V → Hp → VK → Prop := fun xs H Q => ∃ D c cv b, cls = .ref D ∧ ExcC K D ∧ (d = none ∨ ∃ dd fs, d = some dd ∧ H dd = some (.xd fs)) ∧ xs = [.ref a, c] ∧ (∀ u, L2.RelV c u → u = cv) ∧ PySem.W.kitOne K (.ref D) cv = some b ∧ Q (.bl b) H
theorem call_isF {X : Cx} {a : Addr} {oe : Obj} {cls : Value} {d : Option Addr} {pn : List (Addr × Obj)} (K : PySem.W.Frag) (hz : Zc cls d oe) (hf : ∃ vs, oe.data = .fields vs) (hK : X.K = K := by rfl) :
    CallR (X.suite a ((a, oe) :: pn)) (.builtin "isinstance") (rIsF K cls d a) := by
  subst hK
  intro pins s σ H xs us Q I r h
  obtain ⟨D, c, cv, b, hcls, T, hd, rfl, hc, hk, q⟩ := h
  subst hcls
  cases r with
  | @cons _ u0 _ ur ra rr =>
  cases rr with
  | @cons _ u1 _ ur2 rb rn =>
  cases rn
  obtain rfl : u0 = Value.ref a := ra
  obtain rfl : u1 = cv := hc _ rb
  obtain ⟨hg, _⟩ := I.pin (a, oe) (List.mem_append_left _ List.mem_cons_self)
  obtain ⟨vs, hvs⟩ := hf
  have J : ∃ od, PySem.W.InstAt s.heap a oe D od := by
    rcases hd with hd | ⟨dd, fs, hd, hH⟩
    · refine ⟨none, hg, hz.1, by unfold PySem.W.notCls; rw [hvs], ?_⟩
      rw [hz.2, hd]
      trivial
    · obtain ⟨mA, hN, _⟩ := I.hok dd _ hH
      obtain ⟨o, es, ep, ho, _⟩ := hN
      refine ⟨some o, hg, hz.1, by unfold PySem.W.notCls; rw [hvs], ?_⟩
      rw [hz.2, hd]
      exact ho
  obtain ⟨od, J⟩ := J
  refine PySem.W.kia_one (kitx_excF s (ox := oe) (od := od) T) I.kIn J hk (by intro e; cases e) fun tk => ⟨.bl b, H, I.tok tk, rfl, q⟩
section
variable {W : Wd} {Γ : Gam} {te : TE}
theorem ev_isF {K : PySem.W.Frag} {B : Bs} {cls : Value} {d : Option Addr} {a : Addr} {v : V} {k : Bool → Prop} (hB : W.B = B) (hK : B.K = K)
    (h : EvK W te Γ fun e : Er => (e.a = a ∧ e.d = d) ∧ ∃ D cv b, cls = .ref D ∧ ExcC K D ∧ (∀ u, L2.RelV v u → u = cv) ∧ PySem.W.kitOne K (.ref D) cv = some b ∧ k b) : EvK W (tCB (rIsF K cls d a) (tCons te (tCons (tC v) tNil))) Γ k := by
  refine fun σ H Q E q => h σ H _ E fun u H1 e e1 ⟨hv, xd⟩ ⟨⟨ha, hd⟩, D, cv, b, hcls, T, hc, hk, z⟩ => ?_
  subst ha
  subst hd
  refine ⟨D, v, cv, b, hcls, T, ?_, by rw [hv], hc, hk, q _ H1 b e1 rfl z⟩
  rcases xd with ⟨_, h0⟩ | ⟨dd, vs, h1, _, h3, _⟩
  · exact .inl h0
  · exact .inr ⟨dd, vs, h1, h3⟩
theorem rel_ref {C : Addr} : ∀ u, L2.RelV (.ref C) u → u = Value.ref C := fun _ h => h
theorem rel_ty {n : String} : ∀ u, L2.RelV (.ty n) u → u = Value.type n := fun _ h => h
/-- isinstance of an own error and an own class -/
theorem kit_own {K : PySem.W.Frag} {E C : Addr} {b : Bool} (h2 : PySem.W.isClsIn K C = true) (h3 : PySem.W.typeIn K (.ref C) = some (.type "type")) (h4 : PySem.W.subIn K (.ref E) (.ref C) = some b) (hne : (Value.ref E == Value.ref C) = false ∨ b = true) :
    PySem.W.kitOne K (.ref E) (.ref C) = some b := by
  have e2 : ((PySem.W.clsIn K C).isSome && PySem.W.typeIn K (.ref C) == some (.type "type")) = true := by
    have h2' : (PySem.W.clsIn K C).isSome = true := h2
    rw [h2', h3] <;> rfl
  show (if (Value.ref E == Value.ref C) = true then some true else (if ((PySem.W.clsIn K C).isSome && PySem.W.typeIn K (.ref C) == some (.type "type")) = true then PySem.W.subIn K (.ref E) (.ref C) else none)) = some b
  by_cases hq : (Value.ref E == Value.ref C) = true
  · rw [if_pos hq]
    rcases hne with h | h
    · rw [h] at hq; cases hq
    · rw [h]
  · rw [if_neg hq, if_pos e2]
    exact h4
end
theorem chkne {M : Model} {A : Around} {E : Value → Shared → Prop} {s : Shared} {x : Addr} {v : Value} {Q : Unit → Shared → Prop} (hi : PySem.W.Looks M s.heap (isInstance (.ref x) (.type "object")) true) (q : Q () s) :
    wpAny M A (checkBuiltinCall "object.__ne__" { pos := [.ref x, v] }) Q E s := by
  have := @PySem.W.check_slot M A E s "object.__ne__" "object" "__ne__" (.ref x) [v] [] Q F.cmpKind_ne F.cmpSplit_ne hi (F.cmpArgs_ne _ _) q
  exact this
theorem call_ne {prog : Program} {w : World} {A : Around} {E : Value → Shared → Prop} {s : Shared} {K : PySem.W.Frag} {x C f : Addr} {ox : Obj} {od : Option Obj} {b : Value} {Q : Value → Shared → Prop}
    (hu : A.units + 1 < cLine) (X : K.In s.heap) (J : PySem.W.InstAt s.heap x ox C od) (heq : PySem.W.findIn K (.ref C) "__eq__" = some (some (.ref f))) (hf : PySem.W.isFn K (.ref f) = true) (hm : PySem.W.subIn K (.ref C) (.type "object") = some true)
    (hc : wpAny (model prog w) A.in1 (call (.ref f) [.ref x, b]) (fun r s' => ∃ k, r = .bool k ∧ Q (.bool !k) s') E s) :
    wpAny (model prog w) A (call (.builtin "object.__ne__") [.ref x, b]) Q E s := by
  refine wpAny_call ?_
  have hi : PySem.W.Looks (model prog w) s.heap (isInstance (.ref x) (.type "object")) true := PySem.W.Looks.andThen J.type (PySem.W.looks_subIn X hm)
  refine codeAny_call_builtin (b := Builtin.«object.__ne__») (Slot.plain F.slot_object_ne) F.cmpEntry_ne ?_
  refine chkne hi ?_
  unfold Builtin.«object.__ne__»
  refine wpAny_bind (wpAny_of_eq (a := (Value.ref x, [b])) rfl ?_)
  refine wpAny_bind (wpAny_cRoomFor (by show A.units + 1 < cLine; exact hu) ?_)
  refine wpAny_bind (PySem.W.ifBound_K X J heq hf (thn hc fun r s' h => ?_))
  obtain ⟨k, rfl, q⟩ := h
  show wpAny _ _ (do let v ← truthy (.bool k); ret (.bool !v)) _ _ _
  refine wpAny_bind (wpAny_truthy_bool ?_)
  refine wpAny_of_eq (a := Fin.done (.ret (.bool !k))) rfl ?_
  exact q
theorem try_ne {prog : Program} {w : World} {A : Around} {E : Value → Shared → Prop} {s : Shared} {K : PySem.W.Frag} {x C f : Addr} {ox : Obj} {od : Option Obj} {b : Value} {Q : Option Value → Shared → Prop}
    (hu : A.units + 1 < cLine) (X : K.In s.heap) (J : PySem.W.InstAt s.heap x ox C od) (hne : PySem.W.findIn K (.ref C) "__ne__" = some (some (.builtin "object.__ne__"))) (heq : PySem.W.findIn K (.ref C) "__eq__" = some (some (.ref f))) (hf : PySem.W.isFn K (.ref f) = true) (hm : PySem.W.subIn K (.ref C) (.type "object") = some true)
    (hc : wpAny (model prog w) A.in1 (call (.ref f) [.ref x, b]) (fun r s' => ∃ k, r = .bool k ∧ Q (some (.bool !k)) s') E s) :
    wpAny (model prog w) A (tryCompare (.ref x) "__ne__" b) Q E s := by
  rw [tryCompare.eq_1, callSpecialIfBound?.eq_1]
  refine wpAny_bind (wpAny_holding (wpAny_bind ?_))
  unfold bindSpecialIfBound?
  refine wpAny_bind (PySem.W.Looks.here (r := some (Value.builtin "object.__ne__")) (PySem.W.Looks.andThen J.type (PySem.W.looks_findIn X hne)) ?_)
  refine wpAny_bind (wpAny_askSetting ?_)
  have hb := F.slot_object_ne.bind (.ref x)
  have fin : wpAny (model prog w) A (do let r ← call (.builtin "object.__ne__") ([.ref x] ++ [b]); pure (some r)) (fun a s' => wpAny (model prog w) A (match a with | some Value.notImplemented => pure none | none => pure none | some v => pure (some v)) Q E s') E s := by
    refine wpAny_bind (call_ne hu X J heq hf hm (thn hc fun r s' h => ?_))
    obtain ⟨k, rfl, q⟩ := h
    refine ⟨k, rfl, wpAny_of_eq rfl (wpAny_of_eq rfl q)⟩
  show wpAny (model prog w) A (if _ = true then (do let r ← bindSpecial (.builtin "object.__ne__") (.ref x); pure (some r)) else Sem.tryCatch (do let r ← bindSpecial (.builtin "object.__ne__") (.ref x); pure (some r)) _) _ _ _
  rw [hb]
  split
  · exact wpAny_of_eq (a := some (Value.builtin "object.__ne__", [Value.ref x])) rfl fin
  · exact wpAny_of_eq (a := some (Value.builtin "object.__ne__", [Value.ref x])) rfl fin
theorem ne_own {prog : Program} {w : World} {A : Around} {E : Value → Shared → Prop} {s : Shared} {K : PySem.W.Frag} {x C f : Addr} {ox : Obj} {od : Option Obj} {b tb : Value} {Q : Value → Shared → Prop}
    (hu : A.units + 1 < cLine) (X : K.In s.heap) (J : PySem.W.InstAt s.heap x ox C od) (Y : PySem.W.Looks (model prog w) s.heap (typeOf b) tb) (hn : PySem.W.notFirst K C tb = true) (hne : PySem.W.findIn K (.ref C) "__ne__" = some (some (.builtin "object.__ne__"))) (heq : PySem.W.findIn K (.ref C) "__eq__" = some (some (.ref f))) (hf : PySem.W.isFn K (.ref f) = true) (hm : PySem.W.subIn K (.ref C) (.type "object") = some true)
    (hc : wpAny (model prog w) A.in1 (call (.ref f) [.ref x, b]) (fun r s' => ∃ k, r = .bool k ∧ Q (.bool !k) s') E s) :
    wpAny (model prog w) A (richCompare .NotEq (.ref x) b) Q E s := by
  rw [richCompare.eq_1]
  refine wpAny_holding (wpAny_bind (wpAny_cRoomFor (by omega) ?_))
  rw [oneThing_ref]
  have fin : wpAny (model prog w) A (tryCompare (.ref x) "__ne__" b) (fun a s' => ∃ k, a = some (Value.bool k) ∧ Q (.bool k) s') E s := try_ne hu X J hne heq hf hm (thn hc fun r s' ⟨k, e, q⟩ => ⟨k, e, _, rfl, q⟩)
  refine wpAny_bind (PySem.W.Looks.here J.type (wpAny_bind (PySem.W.Looks.here Y ?_)))
  by_cases ht : (Value.ref C != tb) = true
  · rw [if_pos ht]
    have hs : PySem.W.subIn K tb (.ref C) = some false := by
      unfold PySem.W.notFirst at hn
      have h1 : (tb == Value.ref C) = false := by
        cases q : (tb == Value.ref C) with
        | false => rfl
        | true => rw [eq_of_beq q] at ht; simp at ht
      rw [h1, Bool.false_or] at hn
      exact eq_of_beq hn
    refine wpAny_bind (PySem.W.Looks.here (PySem.W.looks_subIn X hs) ?_)
    refine wpAny_bind (thn fin fun a s' h => ?_)
    obtain ⟨k, rfl, q⟩ := h
    exact wpAny_of_eq rfl q
  · rw [if_neg ht]
    refine wpAny_bind (wpAny_of_eq (a := false) rfl ?_)
    refine wpAny_bind (thn fin fun a s' h => ?_)
    obtain ⟨k, rfl, q⟩ := h
    exact wpAny_of_eq rfl q
/-! ### == and != of own objects -/
/-- the class of a value -/
inductive TyV (K : PySem.W.Frag) (H : Hp) : V → Value → Prop
  | non : TyV K H .non (.type "NoneType")
  | ins {a C dx : Addr} {fs : List (Str × V)} : H a = some (.ins C dx fs) → TyV K H (.ref a) (.ref C)
  | tup {a : Addr} {xs : List V} : SqT K H a xs → TyV K H (.ref a) (.type "tuple")
  | lst {a : Addr} {xs : List V} : SqL K H a xs → TyV K H (.ref a) (.type "list")
section
variable {X : Cx} {CX : CXT} {n : Nat} {f C : Addr} {sp : Sp} {E : XK}
theorem tyV_looks {pins : List (Addr × Obj)} {σ : L2.St} {H : Hp} {s : Shared} {x : V} {u t : Value} {M : Model} (I : L2.Inv X pins σ H s) (r : L2.RelV x u) (h : TyV X.K H x t) : PySem.W.Looks M s.heap (typeOf u) t := by
  cases h with
  | non =>
    obtain rfl : u = Value.none := r
    exact (PySem.W.kitx_none (K := X.K)).ty M s.heap I.kIn trivial
  | ins ea =>
    obtain rfl : u = Value.ref _ := r
    obtain ⟨od, J⟩ := inst_of I ea
    exact J.type
  | tup hs =>
    obtain rfl : u = Value.ref _ := r
    obtain ⟨its, _, ⟨o, ho, hc, _⟩, _⟩ := I.tuple hs
    exact PySem.W.kitx_tuple.ty M s.heap I.kIn ⟨o, ho, hc⟩
  | lst hs =>
    obtain rfl : u = Value.ref _ := r
    obtain ⟨its, _, ⟨o, n, ho, hc, _⟩, _⟩ := I.list hs
    exact PySem.W.kitx_list.ty M s.heap I.kIn ⟨o, ho, hc⟩
theorem run_fnR1 {pins : List (Addr × Obj)} {σ : L2.St} {H : Hp} {s : Shared} {Q : VK} {us : List Value} {vs : List V} (F : FnR X.prog X.w X.K X.mg X.base CX n f sp) (hr : Room (n + 1) X.A) (hx : Passes CX X E) (I : L2.Inv X pins σ H s) (r : Vals vs us) (q : sp vs H Q E) :
    wpAny (model X.prog X.w) X.A.in1 (call (.ref f) us) (EP X pins σ Q) X.xe s := by
  have E1 : Env0 X.prog X.w X.K X.mg X.base X.A.in1 X.stack s H := ⟨(Around.in1_frames X.A).trans I.env0.frames, I.env0.mod, I.env0.bs, I.env0.bsz, I.env0.funs, I.env0.frf, I.env0.hok, I.env0.bare⟩
  refine wpAny_call (codeAny_mono (F _ X.stack _ _ us _ _ E hr.in1 E1 r q) fun r s' h => ?_)
  cases r with
  | error e => exact hx pins σ H s e s' I h
  | ok fl =>
    cases fl with
    | ret u =>
      obtain ⟨v, H2, os2, bare2, un2, hok2, rv, qv⟩ := h
      exact ⟨v, H2, I.call' os2 un2 hok2 bare2 (fun b hb => (nomatch hb)), rv, qv⟩
    | next => exact False.elim h
    | brk => exact False.elim h
    | cont => exact False.elim h
/-- what the text says of == of the class -/
structure EqT (K : PySem.W.Frag) (C f : Addr) : Prop where
  ne : PySem.W.findIn K (.ref C) "__ne__" = some (some (.builtin "object.__ne__"))
  eq : PySem.W.findIn K (.ref C) "__eq__" = some (some (.ref f))
  fn : PySem.W.isFn K (.ref f) = true
  ob : PySem.W.subIn K (.ref C) (.type "object") = some true
def rEqO (K : PySem.W.Frag) (C : Addr) (sp : Sp) (E : XK) : R2 := fun x y H Q => ∃ a dx fs tb, x = .ref a ∧ H a = some (.ins C dx fs) ∧ TyV K H y tb ∧ PySem.W.notFirst K C tb = true ∧ sp [x, y] H (fun v H' => ∃ b, v = .bl b ∧ Q (.bl b) H') E
def rNeO (K : PySem.W.Frag) (C : Addr) (sp : Sp) (E : XK) : R2 := fun x y H Q => ∃ a dx fs tb, x = .ref a ∧ H a = some (.ins C dx fs) ∧ TyV K H y tb ∧ PySem.W.notFirst K C tb = true ∧ sp [x, y] H (fun v H' => ∃ b, v = .bl b ∧ Q (.bl (!b)) H') E
theorem op_eqO (K : PySem.W.Frag) (T : EqT X.K C f) (F : FnR X.prog X.w X.K X.mg X.base CX n f sp) (hr : Room (n + 1) X.A) (hx : Passes CX X E) (hK : X.K = K := by rfl) : OpR X (compareOp .Eq) (rEqO K C sp E) := by
  subst hK
  intro pins s σ H x y v u Q I rx ry h
  obtain ⟨a, dx, fs, tb, rfl, ea, ht, hn, q⟩ := h
  cases (show v = Value.ref a from rx)
  obtain ⟨od, J⟩ := inst_of I ea
  obtain ⟨m', hF⟩ := I.fr
  have hu := hr.units
  show wpAny _ _ (richCompare .Eq _ _) _ _ _
  refine PySem.W.cmp_K (by omega) hF I.ok.mod.kin J (tyV_looks I ry ht) hn T.eq T.fn (wpAny_mono (wpAny_call (run_fnR (us := [.ref a, u]) (vs := [.ref a, y]) F (hr.mono (Nat.le_succ _)) hx I (.cons rx (.cons ry .nil)) q)) (fun w s' z => ?_) fun _ _ x => x)
  obtain ⟨z', H', I', rz, b, eb, qz⟩ := z
  subst eb
  cases (show w = Value.bool b from rz)
  exact ⟨.bl b, H', I', rfl, qz⟩
theorem op_neO (K : PySem.W.Frag) (T : EqT X.K C f) (F : FnR X.prog X.w X.K X.mg X.base CX n f sp) (hr : Room (n + 1) X.A) (hx : Passes CX X E) (hK : X.K = K := by rfl) : OpR X (compareOp .NotEq) (rNeO K C sp E) := by
  subst hK
  intro pins s σ H x y v u Q I rx ry h
  obtain ⟨a, dx, fs, tb, rfl, ea, ht, hn, q⟩ := h
  cases (show v = Value.ref a from rx)
  obtain ⟨od, J⟩ := inst_of I ea
  have hu := hr.units
  show wpAny _ _ (richCompare .NotEq _ _) _ _ _
  refine ne_own (by omega) I.kIn J (tyV_looks I ry ht) hn T.ne T.eq T.fn T.ob (thn (run_fnR1 (us := [.ref a, u]) (vs := [.ref a, y]) F hr hx I (.cons rx (.cons ry .nil)) q) fun w s' z => ?_)
  obtain ⟨z', H', I', rz, b, eb, qz⟩ := z
  subst eb
  cases (show w = Value.bool b from rz)
  exact ⟨b, rfl, .bl (!b), H', I', rfl, qz⟩
end
class HasTy (α : Type) [Rep α] (ty : outParam (Bs → Value)) : Prop where
  at_ : ∀ {W : Wc} {H : Hp} {v : V} {a : α}, den W H v a → TyV W.B.K H v (ty W.B)
instance : HasTy Stc fun B => .ref (B.cl .Stretch) := ⟨fun ⟨a, dx, hv, m, h⟩ => by subst hv; exact .ins h⟩
instance : HasTy Unit fun _ => .type "NoneType" := ⟨fun h => by cases h; exact .non⟩
instance {α β : Type} [Rep α] [Rep β] : HasTy (α × β) fun _ => .type "tuple" := ⟨fun ⟨p, x, y, hv, s, _⟩ => by subst hv; exact .tup s.sq⟩
instance {α : Type} [Rep α] : HasTy (List α) fun _ => .type "list" := ⟨fun ⟨p, vs, hv, s, _⟩ => by subst hv; exact .lst s.sq⟩
/-- the right one is of a class that does not come first -/
def TyG (α : Type) [Rep α] (B : Bs) (C : Addr) (G : Prop) : Prop := ∃ ty, HasTy α ty ∧ PySem.W.notFirst B.K C (ty B) = true ∧ G
theorem tyG_in {α : Type} [Rep α] {ty : Bs → Value} [i : HasTy α ty] {B : Bs} {C : Addr} {G : Prop} (hn : PySem.W.notFirst B.K C (ty B) = true) (h : G) : TyG α B C G := ⟨ty, i, hn, h⟩
theorem nf_self {K : PySem.W.Frag} {C : Addr} : PySem.W.notFirst K C (.ref C) = true := by
  unfold PySem.W.notFirst
  rw [beq_self_eq_true, Bool.true_or]
theorem nf_of {K : PySem.W.Frag} {C : Addr} {t : Value} (h : PySem.W.subIn K t (.ref C) = some false) : PySem.W.notFirst K C t = true := by
  unfold PySem.W.notFirst
  rw [h, Bool.or_eq_true]
  exact .inr rfl
section
variable {W : Wd} {Γ : Gam} {te tb : TE} {B : Bs} {P : PT} {C : Addr} {K : PySem.W.Frag} {E : XK}
theorem ev_eqO {α β : Type} {rα : Rep α} {rβ : Rep β} {k : Bool → Prop} (hB : W.B = B) (hK : B.K = K)
    (h : EvK W te Γ fun s : β => EvK W tb Γ fun y : α => OwnG β B C (TyG α B C (P (fun t => ∃ b : Bool, t = T b ∧ k b) (fun _ => False) [T s, T y]))) : EvK W (tOp (rEqO K C (spG B P) E) te tb) Γ k := by
  subst hB
  subst hK
  refine ev_two (h.imp fun s hs => hs.imp fun y ⟨c, fl, iβ, hC, ty, iα, hn, hp⟩ x z H Q o dx dz q => ?_)
  subst hC
  obtain ⟨p, dp, fs, hv, _, hH, _⟩ := iβ.at_ dx
  exact ⟨p, dp, fs, _, hv, hH, iα.at_ dz, hn, W, _, _, _, rfl, o, .cons (t := T s) dx (.cons (t := T y) dz .nil), hp, fun v H2 t e2 dt ⟨b, eb, kb⟩ => by
    subst eb
    exact ⟨b, dt, q _ H2 b e2 rfl kb⟩, fun n d2 H2 _ _ z => z.elim⟩
theorem ev_neO {α β : Type} {rα : Rep α} {rβ : Rep β} {k : Bool → Prop} (hB : W.B = B) (hK : B.K = K)
    (h : EvK W te Γ fun s : β => EvK W tb Γ fun y : α => OwnG β B C (TyG α B C (P (fun t => ∃ b : Bool, t = T b ∧ k (!b)) (fun _ => False) [T s, T y]))) : EvK W (tOp (rNeO K C (spG B P) E) te tb) Γ k := by
  subst hB
  subst hK
  refine ev_two (h.imp fun s hs => hs.imp fun y ⟨c, fl, iβ, hC, ty, iα, hn, hp⟩ x z H Q o dx dz q => ?_)
  subst hC
  obtain ⟨p, dp, fs, hv, _, hH, _⟩ := iβ.at_ dx
  exact ⟨p, dp, fs, _, hv, hH, iα.at_ dz, hn, W, _, _, _, rfl, o, .cons (t := T s) dx (.cons (t := T y) dz .nil), hp, fun v H2 t e2 dt ⟨b, eb, kb⟩ => by
    subst eb
    exact ⟨b, dt, q _ H2 (!b) e2 rfl kb⟩, fun n d2 H2 _ _ z => z.elim⟩
end
end G
set_option Elab.async false
set_option linter.all false
set_option maxRecDepth 100000
set_option maxHeartbeats 2000000
namespace G
open PySem PySem.Spec PyProof.Rows L2 StX

/-! ### errors without fields -/
theorem mk_none {X : Cx} {pins : List (Addr × Obj)} {σ : L2.St} {H1 : Hp} {Q : XK} {hp hp2 h2 : Heap} {g1 g2 : Array GenState} {d1 d2 : Drawn} {t1 t2 : Nat} {os1 os2 : OsState} {a C : Addr}
    (r : Raises X (.ref C)) (I1 : L2.Inv X pins σ H1 ⟨hp, g1, d1, t1, os1⟩) (hsz : hp.objs.size ≤ a) (kk : ∀ b o, hp.get? b = some o → hp2.get? b = some o)
    (un : Un (frs X.stack) [] (upd H1 a (exo a C none)) (upd H1 a (exo a C none)) hp2 h2) (hok : HOk X.prog X.w (upd H1 a (exo a C none)) h2) (os : os2 = os1) (bare : AllBare g2) (q : Q (.ref C) none H1) :
    MkP X pins σ Q (.ref a) ⟨h2, g2, d2, t2, os2⟩ := by
  have na : H1 a = none := I1.hok.fresh hsz
  obtain ⟨t0, ho⟩ := exo_at hok upd_same
  obtain ⟨G, hG1, hG2⟩ := L2.restrict h2 (fun b => b != a)
  have hG : ∀ b o, b ≠ a → h2.get? b = some o → G.get? b = some o := fun b o hb ho => by rw [hG1 b (by simp [hb])]; exact ho
  have hne : ∀ b o, hp.get? b = some o → b ≠ a := fun b o h e => by
    have h1 := Heap.lt_size h
    rw [e] at h1
    exact Nat.lt_irrefl _ (Nat.lt_of_lt_of_le h1 hsz)
  have hokG : HOk X.prog X.w H1 G := by
    intro b o hb
    have hba : b ≠ a := ne_of_none hb na
    refine (hok b o (by rw [upd_ne hba]; exact hb)).stay (fun c u hc hu => ?_) (fun c hc => ?_) (fun c xs hc => ?_)
    · refine hG c u ?_ hu
      rcases hc with hc | hc
      · rw [hc]; exact hba
      · intro e
        subst e
        rw [upd_same] at hc
        exact exo_own (Option.some.inj hc)
    · by_cases e : c = a
      · subst e
        rw [upd_same] at hc
        exact absurd (Option.some.inj hc) exo_own
      · rw [upd_ne e] at hc
        exact hc
    · by_cases e : c = a
      · subst e
        rw [upd_same] at hc
        exact absurd (Option.some.inj hc) exo_tup
      · rw [upd_ne e] at hc
        exact hc
  have unG : Un (frs X.stack) [] H1 H1 hp G := by
    refine ⟨fun b o h n m z => ?_, fun b o h n m z => ?_, fun b o _ n _ => n, fun b o h z => ?_, fun b xs h => h, fun b o u h => h, fun b ps h => ⟨#[], by simpa using h⟩⟩
    · have e := hne b o h
      exact hG b o e (un.keep b o (kk b o h) (by rw [upd_ne e]; exact n) m z)
    · have e := hne b o h
      obtain ⟨sl, hs⟩ := un.slot b o (kk b o h) (by rw [upd_ne e]; exact n) m z
      exact ⟨sl, hG b _ e hs⟩
    · have e := hne b o h
      obtain ⟨o', hs⟩ := un.there b o (kk b o h) z
      exact ⟨o', hG b _ e hs⟩
  have IG : L2.Inv X pins σ H1 ⟨G, g2, d2, t2, os2⟩ := I1.call' (s' := ⟨G, g2, d2, t2, os2⟩) os unG hokG bare (fun b hb => (nomatch hb))
  refine ⟨a, _, _, ⟨G, g2, d2, t2, os2⟩, H1, .ref C, none, rfl, IG, fun b o h => ?_, hG2 a (by simp), ho, ⟨rfl, rfl⟩, rfl, rfl, na, rfl, bare, r, q⟩
  have e : b ≠ a := fun e => by
    subst e
    have h' : G.get? b = some o := h
    rw [hG2 b (by simp)] at h'
    cases h'
  have h' : G.get? b = some o := h
  rw [hG1 b (by simp [e])] at h'
  exact h'
section
variable {X : Cx} {CX : CXT} {k n : Nat} {f g C : Addr} {sp : Sp} {E : L2.St → XK} {x m : Str} {o e : Expr} {es : List Expr} {te : TE} {t : TA} {p p2 pos apos : Pos}
def tMkO0 (C : Addr) (sp : Sp) : L2.St → Hp → XK → Prop := fun σ H Q => ∀ a, H a = none → sp [.ref a] (upd H a (exo a C none)) (fun v H2 => v = .non ∧ H2 = upd H a (exo a C none) ∧ Q (.ref C) none H) (fun _ _ _ => False)
/-- C(), an error with its own __init__ that sets no field -/
theorem pmk_oexR0 {fI : Addr} (T : OexC X.K C) (iC : PySem.W.findIn X.K (.ref C) "__init__" = some (some (.ref fI))) (tI : PySem.W.typeIn X.K (.ref fI) = some (.type "function"))
    (F : FnR X.prog X.w X.K X.mg X.base CX k fI sp) (hr : Room (k + 1) X.A) (hx : Passes CX X (fun _ _ _ => False)) (hg : Gl X x) (hm : X.mg x = some (.ref C)) (hdb : (x == ("__debug__" : Str)) = false := by decide) :
    PMk X (.Call (.Name x p) [] [] pos) (tMkO0 C sp) := by
  intro pins s σ H Q I h
  obtain ⟨nm, q, N, bs, bm, sn, sub, ab, col, dd, k0, k1, k2, k3, k5, hC, hbm⟩ := T.cls
  refine wpAny_Call_Name_kw (ld_glob I hg hm ?_ hdb)
  refine PySem.W.callWith_K0 I.kIn T.kC ?_
  show wpAny _ _ (call (.ref C) []) _ _ _
  obtain ⟨hp, g, dr, tk, os⟩ := s
  have hsz : hp.objs.size ≤ hp.objs.size + 1 := Nat.le_succ _
  have hn : H (hp.objs.size + 1) = none := I.hok.fresh hsz
  have hq := h (hp.objs.size + 1) hn
  have kk : ∀ b o, hp.get? b = some o → ((hp.push (PySem.W.kdv_tup [])).push (PySem.HandSPX.excO C hp.objs.size)).get? b = some o := fun b o e => Heap.get?_push_of_some _ (Heap.get?_push_of_some _ e)
  have hget : ((hp.push (PySem.W.kdv_tup [])).push (PySem.HandSPX.excO C hp.objs.size)).get? (hp.objs.size + 1) = some (PySem.HandSPX.excO C hp.objs.size) := by heap_get
  have I2 : L2.Inv X pins σ (upd H (hp.objs.size + 1) (exo (hp.objs.size + 1) C none)) ⟨(hp.push (PySem.W.kdv_tup [])).push (PySem.HandSPX.excO C hp.objs.size), g, dr, tk, os⟩ :=
    I.laid (t' := tk) (a := hp.objs.size + 1) (o := exo (hp.objs.size + 1) C none) (h' := (hp.push (PySem.W.kdv_tup [])).push (PySem.HandSPX.excO C hp.objs.size)) kk hsz (exo_ok hget)
  refine wpAny_call (PySem.HandSPX.call_own PySem.F.excBase_ValueError (fun Y => PySem.HandSPX.refsVE_contains Y bm hbm) (I.kIn _ _ hC) (PySem.W.looks_findIn I.kIn iC) (fun self => PySem.W.bind_fn I.kIn self tI) (by decide)
    (codeAny_mono (F _ X.stack _ _ [Value.ref (hp.objs.size + 1)] _ _ (fun _ _ _ => False) (hr.make C [] []) (I2.env0.make C [] []) (.cons (show L2.RelV (.ref _) (.ref _) from rfl) .nil) hq) fun r s' hq' => ?_))
  cases r with
  | error er => exact hx pins σ _ _ er s' I2 hq'
  | ok fl =>
    cases fl with
    | ret u =>
      obtain ⟨v, H2, os2, bare2, un2, hok2, rv, ev, eH, q2⟩ := hq'
      subst ev
      subst eH
      obtain ⟨h2, g2, d2, t2, os'⟩ := s'
      exact ⟨rv, mk_none (raises_own T.exC T.tyC) I hsz kk un2 hok2 os2 bare2 q2⟩
    | next => exact False.elim hq'
    | brk => exact False.elim hq'
    | cont => exact False.elim hq'
/-- what the text says of C.__init__, a def at f, read from the class -/
structure CliT (K : PySem.W.Frag) (C f : Addr) : Prop where
  ga : PySem.W.specialIn K (.ref C) "__getattribute__" = some (some (.builtin "type.__getattribute__"))
  rd : PySem.W.readsIn K C (.type "type") = true
  at_ : PySem.W.findCls K (.ref C) (.type "type") "__init__" = some (.val (.ref f))
  kp : PySem.W.keepIn K (.ref f) = true
/-- C.__init__(self, ..) of an own class -/
theorem pe_cinit {pl : Sem Bool} (T : CliT X.K C f) (F : FnR X.prog X.w X.K X.mg X.base CX k f sp) (hr : Room k X.A) (hx : ∀ σ, PassesAt CX X σ (E σ)) (hm : X.mg x = some (.ref C)) (ha : PA X (e :: es) t) (hg : Gl X x := by rfl) (hdb : (x == ("__debug__" : Str)) = false := by decide)
    (hc : eval (.Call (.Attribute (.Name x p) "__init__" p2) (e :: es) [] pos) X.env = (do
      let ov ← eval (.Name x p) X.env
      standAt p2.atName
      let (f, first) ← holding [ov] (getMethod ov "__init__" pl)
      callWith pos f first (backTo pos (starEach (e :: es) X.env)) (backToKw pos (keywordEach [] X.env))) := by rfl)
    (he : starEach (e :: es) X.env = (false, eval e X.env) :: starEach es X.env := by rfl) (hpl : (backTo pos (starEach es X.env)).any (·.1) = false := by rfl) :
    PE X (.Call (.Attribute (.Name x p) "__init__" p2) (e :: es) [] pos) (tCallZ sp E t) := by
  refine ⟨fun pins s σ H Q I h => ?_⟩
  refine PySem.W.methodCall_KW (ld_glob I hg hm ?_ hdb) hc
  refine PySem.W.method_cls I.kIn T.ga (PySem.W.cls_value I.kIn T.rd T.at_ (by rfl) ?_)
  show wpAny _ _ (callWith pos (Value.ref f) [] (backTo pos (starEach (e :: es) X.env)) []) _ _ _
  exact PySem.W.callWith_K (h₀ := X.base) I.ok.mod.kin T.kp (thn (ha.run pos pins _ σ H _ (I.tok _) h) fun us s1 ⟨vs, H1, I1, r1, q⟩ => ⟨I1.kIn, run_fnRS F hr (hx σ) I1 r1 q⟩) he hpl
end
/-- __init__ of an error that sets no field -/
def spE0 (K : PySem.W.Frag) : Sp := fun vs H Q E => ∃ a C, vs = [.ref a] ∧ OexC K C ∧ H a = some (exo a C none) ∧ Q .non H
theorem sx_raise0 {W : Wd} {Γ : Gam} {x : Xn → Prop} {C : Addr} {R : Po} {c : Cn} {Wx : WX} {B : Bs} {K : PySem.W.Frag} (hB : W.B = B) (hC : B.cl c = C) (T : OexC K C) (hx : HX W Γ (WE Wx) x) (h : x ⟨c, []⟩) :
    Sx W (fun _ σ H => tMkO0 C (spE0 K) σ H fun cls d H' => Wx cls d σ H') Γ R := by
  subst hB
  subst hC
  refine fun D σ H G O a ha => ⟨a, _, rfl, T, upd_same, rfl, rfl, ?_⟩
  exact hx σ H G ⟨c, []⟩ none H (Ext.refl G.ok) (.inl ⟨rfl, rfl⟩) h
theorem isF_in {W : Wd} {B : Bs} {K : PySem.W.Frag} {c : Cn} {D : Addr} {e : Er} {v : V} {cv : Value} {b : Bool} {k : Bool → Prop} (hB : W.B = B) (hc : B.cl c = D) (T : ExcC K D) (hr : ∀ u, L2.RelV v u → u = cv) (hk : PySem.W.kitOne K (.ref D) cv = some b) (h : k b) :
    (e.a = e.a ∧ e.d = e.d) ∧ ∃ (D : Addr) (cv : Value) (b : Bool), Value.ref (W.B.cl c) = .ref D ∧ ExcC K D ∧ (∀ u, L2.RelV v u → u = cv) ∧ PySem.W.kitOne K (.ref D) cv = some b ∧ k b :=
  ⟨⟨rfl, rfl⟩, D, cv, b, xcl_of hB hc, T, hr, hk, h⟩
theorem kit_blt {K : PySem.W.Frag} {E : Addr} {n : String} {b : Bool} (hm : PySem.W.kitMeta n = true) (h : PySem.W.subIn K (.ref E) (.type n) = some b) : PySem.W.kitOne K (.ref E) (.type n) = some b := by
  have hne : (Value.ref E == Value.type n) = false := by
    cases q : (Value.ref E == Value.type n) with
    | false => rfl
    | true => exact absurd (eq_of_beq q) (by intro z; cases z)
  show (if (Value.ref E == Value.type n) = true then some true else (if PySem.W.kitMeta n = true then PySem.W.subIn K (.ref E) (.type n) else none)) = some b
  rw [hne, if_neg Bool.false_ne_true, if_pos hm]
  exact h
/-- a list of four of several kinds -/
structure L4 (α β γ δ : Type) where
  a : α
  b : β
  c : γ
  d : δ
  deriving DecidableEq
instance {α β γ δ : Type} [Rep α] [Rep β] [Rep γ] [Rep δ] : Rep (L4 α β γ δ) :=
  ⟨fun W H v t => ∃ p x y z u, v = .ref p ∧ Lq W H p [x, y, z, u] ∧ den W H x t.a ∧ den W H y t.b ∧ den W H z t.c ∧ den W H u t.d,
   fun e ⟨p, x, y, z, u, hv, s, h1, h2, h3, h4⟩ => ⟨p, x, y, z, u, hv, s.mono e, Rep.mono e h1, Rep.mono e h2, Rep.mono e h3, Rep.mono e h4⟩,
   fun D n ⟨p, x, y, z, u, hv, s, h1, h2, h3, h4⟩ => ⟨p, x, y, z, u, hv, s.grow D n, Rep.grow D n h1, Rep.grow D n h2, Rep.grow D n h3, Rep.grow D n h4⟩,
   fun D ⟨p, x, y, z, u, hv, s, h1, h2, h3, h4⟩ => ⟨p, x, y, z, u, hv, s.shrink D, Rep.shrink D h1, Rep.shrink D h2, Rep.shrink D h3, Rep.shrink D h4⟩⟩
theorem eqv4 (a b c d e f g h : PyData) : PyData.eqv (.list [a, b, c, d]) (.list [e, f, g, h]) = (PyData.eqv a e && (PyData.eqv b f && (PyData.eqv c g && PyData.eqv d h))) := by
  show (PyData.eqv a e && (PyData.eqv b f && (PyData.eqv c g && (PyData.eqv d h && true)))) = _
  rw [Bool.and_true]
instance {α β γ δ : Type} [Rep α] [Rep β] [Rep γ] [Rep δ] [Dat α] [Dat β] [Dat γ] [Dat δ] : Dat (L4 α β γ δ) where
  toD := fun x => .list [Dat.toD x.a, Dat.toD x.b, Dat.toD x.c, Dat.toD x.d]
  dp := fun ⟨p, x, y, z, u, hv, s, h1, h2, h3, h4⟩ => by
    subst hv
    exact .lst s.sq (.cons (Dat.dp h1) (.cons (Dat.dp h2) (.cons (Dat.dp h3) (.cons (Dat.dp h4) .nil))))
  dep := max (Dat.dep α) (max (Dat.dep β) (max (Dat.dep γ) (Dat.dep δ))) + 1
  ddep := fun x => by
    have h1 := Dat.ddep x.a
    have h2 := Dat.ddep x.b
    have h3 := Dat.ddep x.c
    have h4 := Dat.ddep x.d
    show max (Dat.toD x.a).depth (max (Dat.toD x.b).depth (max (Dat.toD x.c).depth (max (Dat.toD x.d).depth 0))) + 1 ≤ _
    omega
  inj := fun x y => by
    rw [eqv4, Bool.and_eq_true, Bool.and_eq_true, Bool.and_eq_true, Dat.inj, Dat.inj, Dat.inj, Dat.inj]
    cases x; cases y
    exact ⟨fun h => by obtain ⟨h1, h2, h3, h4⟩ := h; cases h1; cases h2; cases h3; cases h4; rfl, fun h => by cases h; exact ⟨rfl, rfl, rfl, rfl⟩⟩
  good := fun x => Dat.good x.a ∧ Dat.good x.b ∧ Dat.good x.c ∧ Dat.good x.d
  gshp := fun x h => by
    have h1 := Dat.gshp _ h.1
    have h2 := Dat.gshp _ h.2.1
    have h3 := Dat.gshp _ h.2.2.1
    have h4 := Dat.gshp _ h.2.2.2
    show ((Dat.toD x.a).canLay0 && ((Dat.toD x.b).canLay0 && ((Dat.toD x.c).canLay0 && ((Dat.toD x.d).canLay0 && true)))) = true
    rw [h1, h2, h3, h4]
    rfl
section
variable {W : Wd} {Γ : Gam} {ta tb tc td : TE}
theorem ev_lst4 {α β γ δ : Type} {rα : Rep α} {rβ : Rep β} {rγ : Rep γ} {rδ : Rep δ} {k : L4 α β γ δ → Prop} (h : EvK W ta Γ fun a : α => EvK W tb Γ fun b : β => EvK W tc Γ fun c : γ => EvK W td Γ fun d : δ => k ⟨a, b, c, d⟩) :
    EvK W (tLst (tCons ta (tCons tb (tCons tc (tCons td tNil))))) Γ k := fun σ H Q E c =>
  h σ H _ E fun x H1 a e1 d1 h1 => h1 σ H1 _ (E.ext e1) fun y H2 b e2 d2 h2 => h2 σ H2 _ ((E.ext e1).ext e2) fun u H3 b3 e3 d3 h3 => h3 σ H3 _ (((E.ext e1).ext e2).ext e3) fun w H4 b4 e4 d4 z => ⟨by show 4 ≤ sizeLine; decide, fun p hp =>
    have e5 := Ext.new (o := .lst [x, y, u, w]) e4.ok hp
    c _ _ ⟨a, b, b3, b4⟩ ((((e1.trans e2).trans e3).trans e4).trans e5) ⟨p, x, y, u, w, rfl, Lq.new (fresh_mu e4.ok hp) upd_same, Rep.mono (((e2.trans e3).trans e4).trans e5).keep d1, Rep.mono ((e3.trans e4).trans e5).keep d2, Rep.mono (e4.trans e5).keep d3, Rep.mono e5.keep d4⟩ z⟩
end
end G
set_option Elab.async false
set_option linter.all false
set_option maxRecDepth 100000
set_option maxHeartbeats 2000000
namespace G
open PySem PySem.Spec PyProof.Rows L2 StX

/-! ### lists of a def's own that change: each at its place, with its values now -/
abbrev Own := List (Addr × List V)
abbrev keys (L : Own) : List Addr := L.map (·.1)
structure Ol (α : Type) where
  p : Addr
  vs : List V
  as : List α
instance {α : Type} [Rep α] : Rep (Ol α) :=
  ⟨fun W H v a => v = .ref a.p ∧ Dl (den W H) a.vs a.as, fun e h => ⟨h.1, h.2.imp fun _ _ d => Rep.mono e d⟩, fun D n h => ⟨h.1, h.2.imp fun _ _ d => Rep.grow D n d⟩, fun D h => ⟨h.1, h.2.imp fun _ _ d => Rep.shrink D d⟩⟩
def Wc.plusL (W : Wc) : List Addr → Wc
  | [] => W
  | k :: r => (W.plusL r).plus k
theorem plusL_mu {W : Wc} {a : Addr} : ∀ {ks : List Addr}, (W.plusL ks).mu a ↔ W.mu a ∨ a ∈ ks
  | [] => ⟨.inl, fun h => h.elim id fun h => nomatch h⟩
  | k :: r => by
    show ((W.plusL r).mu a ∨ a = k) ↔ _
    rw [plusL_mu (ks := r), List.mem_cons]
    constructor
    · rintro ((h | h) | h)
      · exact .inl h
      · exact .inr (.inr h)
      · exact .inr (.inl h)
    · rintro (h | h | h)
      · exact .inl (.inl h)
      · exact .inr h
      · exact .inl (.inr h)
theorem plusL_B {W : Wc} : ∀ {ks : List Addr}, (W.plusL ks).B = W.B
  | [] => rfl
  | _ :: r => plusL_B (ks := r)
theorem plusL_box {W : Wc} : ∀ {ks : List Addr}, (W.plusL ks).box = W.box
  | [] => rfl
  | _ :: r => plusL_box (ks := r)
theorem shrinkL {W : Wc} {H : Hp} {v : V} {t : Ty} : ∀ {ks : List Addr}, t.den (W.plusL ks) H v → t.den W H v
  | [], h => h
  | k :: _, h => shrinkL (t.r.shrink k h)
theorem growL {W : Wc} {H : Hp} {v : V} {t : Ty} : ∀ {ks : List Addr}, (∀ k ∈ ks, H k = none) → t.den W H v → t.den (W.plusL ks) H v
  | [], _, h => h
  | k :: r, n, h => t.r.grow k (n k List.mem_cons_self) (growL (fun x hx => n x (List.mem_cons_of_mem _ hx)) h)
theorem fshrinkL {W : Wc} {H : Hp} {v : V} {t : Fv} : ∀ {ks : List Addr}, t.den (W.plusL ks) H v → t.den W H v
  | [], h => h
  | k :: _, h => fshrinkL (Fv.shrink k h)
def Wd.own (W : Wd) (F : Hp) (L : Own) (oF : W.ok F) (nF : ∀ k ∈ keys L, F k = none) : Wd where
  toWc := W.toWc.plusL (keys L)
  ok := fun H => W.ok H ∧ ∀ x ∈ L, H x.1 = some (.lst x.2)
  live := fun H a ⟨h, e⟩ m => by
    rcases plusL_mu.mp m with m | m
    · exact W.live H a h m
    · obtain ⟨x, hx, rfl⟩ := List.mem_map.mp m
      exact ⟨_, e x hx⟩
  st := fun H p o ⟨h, e⟩ m => ⟨W.st H p o h fun z => m (plusL_mu.mpr (.inl z)), fun x hx => by
    have hne : x.1 ≠ p := fun z => m (plusL_mu.mpr (.inr (by rw [← z]; exact List.mem_map.mpr ⟨x, hx, rfl⟩)))
    rw [upd_ne hne]
    exact e x hx⟩
  wish := fun H => Kp W.toWc F H
  wst := fun H H' k _ w a o m e => k a o (fun z => (plusL_mu.mp z).elim m fun z => by rw [nF a z] at e; cases e) (w a o m e)
  hasbox := fun H b ⟨h, _⟩ hb => W.hasbox H b h (by rw [plusL_box] at hb; exact hb)
  boxset := fun H b c i p s i' p' s' ⟨h, e⟩ hb q h1 h2 => by
    rw [plusL_box] at hb
    refine ⟨W.boxset H b c i p s i' p' s' h hb q h1 h2, fun x hx => ?_⟩
    have z : x.1 ≠ b := fun z => by
      have h3 := nF x.1 (List.mem_map.mpr ⟨x, hx, rfl⟩)
      rw [z] at h3
      exact fresh_mu oF h3 (W.boxmu b hb)
    rw [upd_ne z]
    exact e x hx
  boxmu := fun b hb => plusL_mu.mpr (.inl (W.boxmu b (by rw [plusL_box] at hb; exact hb)))
  oke := fun H H' ⟨h, e⟩ k => ⟨W.oke H H' h k, fun x hx => k _ _ (e x hx)⟩
/-- the world Wo is W with the own lists L kept apart -/
structure OwnW (W : Wd) (L : Own) (Wo : Wd) : Prop where
  B : Wo.B = W.B
  pin : ∀ H, Wo.ok H → ∀ x ∈ L, H x.1 = some (.lst x.2)
  err : ∀ (E : XK) (x : Xn → Prop), (∀ H', W.ok H' → W.wish H' → XOk W H' E x) → ∀ H', Wo.ok H' → Wo.wish H' → XOk Wo H' E x
section
variable {W : Wd} {F : Hp} {L L' : Own} {oF : W.ok F} {nF : ∀ k ∈ keys L, F k = none}
theorem own_ext {H H' : Hp} (o : (W.own F L oF nF).ok H) (e : Ext (W.own F L oF nF) H H') : Ext W H H' := ⟨fun a u m z => by
  by_cases h : a ∈ keys L
  · obtain ⟨x, hx, rfl⟩ := List.mem_map.mp h
    have h1 := o.2 x hx
    have h2 := e.ok.2 x hx
    rw [h1] at z
    cases z
    exact h2
  · exact e.keep a u (fun z => (plusL_mu.mp z).elim m h) z, e.ok.1⟩
theorem xdenL {H : Hp} {d : Option Addr} {fs : List (Str × Fv)} {ks : List Addr} (h : xden (W.toWc.plusL ks) H d fs) : xden W.toWc H d fs :=
  h.imp (fun h => h) fun ⟨dd, vs, h1, h2, h3, h4⟩ => ⟨dd, vs, h1, fun z => h2 (plusL_mu.mpr (.inl z)), h3, h4.imp fun _ _ z => fshrinkL z⟩
theorem own_w (wF : W.wish F) : OwnW W L (W.own F L oF nF) := by
  refine ⟨plusL_B, fun H o x hx => o.2 x hx, fun E x h H' o w n d H2 e xd xn => ?_⟩
  have wH : W.wish H' := W.wst F H' w o.1 wF
  have := h H' o.1 wH n d H2 (own_ext o e) (xdenL xd) xn
  have hB : (W.own F L oF nF).B = W.B := plusL_B
  rw [hB]
  exact this
end
/-- from L at H to L' at H' -/
def Stp (W : Wd) (L : Own) (H : Hp) (L' : Own) (H' : Hp) : Prop := Kp (W.toWc.plusL (keys L)) H H' ∧ ∀ k ∈ keys L', k ∈ keys L ∨ H k = none
theorem Stp.refl {W : Wd} {L : Own} {H : Hp} : Stp W L H L H := ⟨fun _ _ _ z => z, fun _ h => .inl h⟩
theorem Stp.trans {W : Wd} {L L1 L2 : Own} {H H1 H2 : Hp} (o1 : W.ok H1) (a : Stp W L H L1 H1) (b : Stp W L1 H1 L2 H2) : Stp W L H L2 H2 := by
  refine ⟨fun x o m z => b.1 x o (fun q => ?_) (a.1 x o m z), fun k hk => ?_⟩
  · rcases plusL_mu.mp q with q | q
    · exact m (plusL_mu.mpr (.inl q))
    · rcases a.2 x q with q | q
      · exact m (plusL_mu.mpr (.inr q))
      · rw [q] at z; cases z
  · rcases b.2 k hk with h | h
    · exact a.2 k h
    · by_cases hm : k ∈ keys L
      · exact .inl hm
      · refine .inr ?_
        cases q : H k with
        | none => rfl
        | some u =>
          by_cases hw : W.mu k
          · obtain ⟨o, e⟩ := W.live H1 k o1 hw
            rw [h] at e; cases e
          · rw [a.1 k u (fun z => (plusL_mu.mp z).elim hw hm) q] at h
            cases h
structure PoM where
  nx : Own → Gam → Prop
  rt : Ty → Prop
  bk : Own → Gam → Prop := fun _ _ => False
  ct : Own → Gam → Prop := fun _ _ => False
structure EOkM (W : Wd) (F : Hp) (L : Own) (H : Hp) (D : Ends) (R : PoM) : Prop where
  nx : ∀ L' oF nF σ' H' Γ', Stp W L H L' H' → (keys L').Nodup → GOk (W.own F L' oF nF) H' σ' Γ' → R.nx L' Γ' → D.nx σ' H'
  rt : ∀ v H' (t : Ty), Ext W F H' → t.den W H' v → R.rt t → D.rt v H'
  bk : ∀ L' oF nF σ' H' Γ', Stp W L H L' H' → (keys L').Nodup → GOk (W.own F L' oF nF) H' σ' Γ' → R.bk L' Γ' → D.bk σ' H'
  ct : ∀ L' oF nF σ' H' Γ', Stp W L H L' H' → (keys L').Nodup → GOk (W.own F L' oF nF) H' σ' Γ' → R.ct L' Γ' → D.ct σ' H'
theorem EOkM.step {W : Wd} {F : Hp} {L L1 : Own} {H H1 : Hp} {D : Ends} {R : PoM} (h : EOkM W F L H D R) (o1 : W.ok H1) (s : Stp W L H L1 H1) : EOkM W F L1 H1 D R :=
  ⟨fun L' oF nF σ' H' Γ' s' => h.nx L' oF nF σ' H' Γ' (s.trans o1 s'), h.rt, fun L' oF nF σ' H' Γ' s' => h.bk L' oF nF σ' H' Γ' (s.trans o1 s'), fun L' oF nF σ' H' Γ' s' => h.ct L' oF nF σ' H' Γ' (s.trans o1 s')⟩
/-- a statement in a def with own lists L; F: the heap ahead of the first of them -/
def SxM (W : Wd) (F : Hp) (t : TS) (L : Own) (Γ : Gam) (R : PoM) : Prop :=
  ∀ D σ H oF nF, W.wish F → (keys L).Nodup → GOk (W.own F L oF nF) H σ Γ → EOkM W F L H D R → t D σ H
theorem own_gok_nil {W : Wd} {F H : Hp} {σ : L2.St} {Γ : Gam} {oF : W.ok F} {nF : ∀ k ∈ keys [], F k = none} (k : Kp W.toWc F H) (G : GOk W H σ Γ) : GOk (W.own F [] oF nF) H σ Γ := ⟨⟨G.ok, fun _ h => nomatch h⟩, k, G.at_, G.len⟩
theorem own_gok_out {W : Wd} {F H : Hp} {L : Own} {σ : L2.St} {Γ : Gam} {oF : W.ok F} {nF : ∀ k ∈ keys L, F k = none} (wF : W.wish F) (G : GOk (W.own F L oF nF) H σ Γ) : GOk W H σ Γ :=
  ⟨G.ok.1, W.wst F H G.wish G.ok.1 wF, fun i t h => let ⟨v, h1, h2⟩ := G.at_ i t h; ⟨v, h1, shrinkL h2⟩, G.len⟩
theorem own_stp {W : Wd} {F H H' : Hp} {L : Own} {oF : W.ok F} {nF : ∀ k ∈ keys L, F k = none} (e : Ext (W.own F L oF nF) H H') : Stp W L H L H' := ⟨e.keep, fun _ h => .inl h⟩
section
variable {W : Wd} {F : Hp} {L : Own} {Γ : Gam} {ta tb te : TE} {tt : TT} {t u : TS} {R : PoM} {g : TG}
/-- into the part with own lists -/
theorem sx_own {R : Po} (h : ∀ F, SxM W F t [] Γ { nx := fun _ => R.nx, rt := R.rt, bk := fun _ => R.bk, ct := fun _ => R.ct }) : Sx W t Γ R := fun D σ H G O =>
  h H D σ H G.ok (fun _ z => nomatch z) G.wish .nil (own_gok_nil (fun _ _ _ z => z) G)
    ⟨fun L' oF nF σ' H' Γ' s _ G' q => O.nx σ' H' Γ' ⟨G'.wish, G'.ok.1⟩ (own_gok_out G.wish G') q, fun v H' t e d q => O.rt v H' t e d q,
     fun L' oF nF σ' H' Γ' s _ G' q => O.bk σ' H' Γ' ⟨G'.wish, G'.ok.1⟩ (own_gok_out G.wish G') q, fun L' oF nF σ' H' Γ' s _ G' q => O.ct σ' H' Γ' ⟨G'.wish, G'.ok.1⟩ (own_gok_out G.wish G') q⟩
theorem eok_un {D : Ends} {H : Hp} {oF : W.ok F} {nF : ∀ k ∈ keys L, F k = none} (nd : (keys L).Nodup) (O : EOkM W F L H D R) (wk : Kp W.toWc F H) (o : (W.own F L oF nF).ok H) : EOk (W.own F L oF nF) H D { nx := R.nx L, rt := R.rt, bk := R.bk L, ct := R.ct L } :=
  ⟨fun σ' H' Γ' e G q => O.nx L oF nF σ' H' Γ' (own_stp e) nd G q, fun v H' t e d q => O.rt v H' t (Ext.trans (W := W) ⟨wk, o.1⟩ (own_ext o e)) (shrinkL d) q,
   fun σ' H' Γ' e G q => O.bk L oF nF σ' H' Γ' (own_stp e) nd G q, fun σ' H' Γ' e G q => O.ct L oF nF σ' H' Γ' (own_stp e) nd G q⟩
/-- a statement that leaves the own lists -/
theorem sxm_pure (h : ∀ Wo, OwnW W L Wo → Sx Wo t Γ { nx := R.nx L, rt := R.rt, bk := R.bk L, ct := R.ct L }) : SxM W F t L Γ R := fun D σ H oF nF wF nd G O =>
  h _ (own_w wF) D σ H G (eok_un nd O G.wish G.ok)
theorem sxm_seq (h : SxM W F t L Γ { R with nx := fun L' Γ' => SxM W F u L' Γ' R }) : SxM W F (tSeq t u) L Γ R := fun D σ H oF nF wF nd G O =>
  h _ σ H oF nF wF nd G ⟨fun L' oF nF σ' H' Γ' s nd' G' q => q D σ' H' oF nF wF nd' G' (O.step G'.ok.1 s), O.rt, O.bk, O.ct⟩
theorem SxM.imp {R' : PoM} (h : SxM W F t L Γ R') (n : ∀ L Γ', R'.nx L Γ' → R.nx L Γ') (r : ∀ v, R'.rt v → R.rt v) (b : ∀ L Γ', R'.bk L Γ' → R.bk L Γ') (c : ∀ L Γ', R'.ct L Γ' → R.ct L Γ') : SxM W F t L Γ R := fun D σ H oF nF wF nd G O =>
  h D σ H oF nF wF nd G ⟨fun L' oF nF σ' H' Γ' s nd' G' q => O.nx L' oF nF σ' H' Γ' s nd' G' (n _ _ q), fun v H' t e d q => O.rt v H' t e d (r _ q), fun L' oF nF σ' H' Γ' s nd' G' q => O.bk L' oF nF σ' H' Γ' s nd' G' (b _ _ q), fun L' oF nF σ' H' Γ' s nd' G' q => O.ct L' oF nF σ' H' Γ' s nd' G' (c _ _ q)⟩
theorem sxm_seqI (I : Own → Gam → Prop) (h : SxM W F t L Γ { R with nx := I }) (k : ∀ L' Γ', I L' Γ' → SxM W F u L' Γ' R) : SxM W F (tSeq t u) L Γ R := sxm_seq (h.imp k (fun _ q => q) (fun _ _ q => q) fun _ _ q => q)
theorem sxm_if (h : ∀ Wo, OwnW W L Wo → EvT Wo tt Γ fun b => (b = true → SxM W F t L Γ R) ∧ (b = false → SxM W F u L Γ R)) : SxM W F (tIfS tt t u) L Γ R := fun D σ H oF nF wF nd G O =>
  h _ (own_w wF) σ H _ G fun H1 b e1 ⟨h1, h2⟩ => by
    have G1 := G.ext e1
    cases b with
    | true => exact h1 rfl D σ H1 oF nF wF nd G1 (O.step G1.ok.1 (own_stp e1))
    | false => exact h2 rfl D σ H1 oF nF wF nd G1 (O.step G1.ok.1 (own_stp e1))
theorem sxm_next (q : R.nx L Γ) : SxM W F tNext L Γ R := sxm_pure fun Wo _ => sx_next q
theorem fresh_F {H : Hp} {p : Addr} (oH : W.ok H) (wk : Kp W.toWc F H) (n : H p = none) : F p = none := by
  cases q : F p with
  | none => rfl
  | some u =>
    rw [wk p u (fresh_mu oH n) q] at n
    cases n
/-- x = a new list, from now on an own one -/
theorem sxm_new {β : Type} {rβ : Rep β} {i : Nat} (h : ∀ Wo, OwnW W L Wo → EvF Wo te Γ fun bs : List β => ∀ p vs, R.nx ((p, vs) :: L) (Γ.set i (some (T (Ol.mk p vs bs))))) : SxM W F (tAsg te (gName i)) L Γ R := fun D σ H oF nF wF nd G O => by
  refine h _ (own_w wF) σ H _ G fun p H1 vs bs n e hp hb q => ?_
  have nFp : F p = none := fresh_F G.ok.1 G.wish n
  have hpk : p ∉ keys L := fun hk => by
    obtain ⟨x, hx, e1⟩ := List.mem_map.mp hk
    have := G.ok.2 x hx
    rw [e1, n] at this
    cases this
  have nF' : ∀ k ∈ keys ((p, vs) :: L), F k = none := fun k hk => by
    rcases List.mem_cons.mp hk with rfl | hk
    · exact nFp
    · exact nF k hk
  have s : Stp W L H ((p, vs) :: L) H1 := ⟨e.keep, fun k hk => by
    rcases List.mem_cons.mp hk with rfl | hk
    · exact .inr n
    · exact .inl hk⟩
  have G1 := G.ext e
  have kp : Kp ((W.toWc.plusL (keys L)).plus p) H H1 := fun b o m z => e.keep b o (fun z => m (.inl z)) z
  have G2 : GOk (W.own F ((p, vs) :: L) oF nF') H1 σ Γ := ⟨⟨G1.ok.1, fun x hx => by
    rcases List.mem_cons.mp hx with rfl | hx
    · exact hp
    · exact G1.ok.2 x hx⟩, G1.wish, fun j t ht => by
      obtain ⟨v, h1, h2⟩ := G.at_ j t ht
      exact ⟨v, h1, Ty.mono kp (t.r.grow p n h2)⟩, G.len⟩
  exact O.nx _ oF nF' _ H1 _ s (List.nodup_cons.mpr ⟨hpk, nd⟩) (G2.set i (t := T (Ol.mk p vs bs)) ⟨rfl, hb⟩) (q p vs)
theorem keys_set {k : Nat} {p : Addr} {vs vs' : List V} (h : L[k]? = some (p, vs)) : keys (L.set k (p, vs')) = keys L := by
  refine List.ext_getElem? fun i => ?_
  rw [List.getElem?_map, List.getElem?_map, List.getElem?_set]
  by_cases e : k = i
  · subst e
    rw [if_pos rfl]
    have hl : k < L.length := (List.getElem?_eq_some_iff.mp h).1
    rw [if_pos hl, h]
    rfl
  · rw [if_neg e]
/-- an own list changes at its place -/
theorem own_put {H : Hp} {σ : L2.St} {D : Ends} {oF : W.ok F} {nF : ∀ k ∈ keys L, F k = none} {k i : Nat} {p : Addr} {vs vs' : List V} {β : Type} {rβ : Rep β} {bs : List β} (nd : (keys L).Nodup) (G : GOk (W.own F L oF nF) H σ Γ) (O : EOkM W F L H D R)
    (hk : L[k]? = some (p, vs)) (hi : σ[i]? = some (some (.ref p))) (hb : Dl (den (W.toWc.plusL (keys L)) H) vs' bs) (q : R.nx (L.set k (p, vs')) (Γ.set i (some (T (Ol.mk p vs' bs))))) : D.nx σ (upd H p (.lst vs')) := by
  have hks : keys (L.set k (p, vs')) = keys L := keys_set hk
  have hmem : p ∈ keys L := List.mem_map.mpr ⟨_, List.mem_of_getElem? hk, rfl⟩
  have kp : Kp (W.toWc.plusL (keys L)) H (upd H p (.lst vs')) := fun b o m z => by
    have hne : b ≠ p := fun e => m (plusL_mu.mpr (.inr (by rw [e]; exact hmem)))
    rw [upd_ne hne]
    exact z
  have nF' : ∀ k' ∈ keys (L.set k (p, vs')), F k' = none := fun k' h => nF k' (by rw [hks] at h; exact h)
  have nmu : ¬ W.mu p := fresh_mu oF (nF p hmem)
  have s : Stp W L H (L.set k (p, vs')) (upd H p (.lst vs')) := ⟨kp, fun k' h => .inl (by rw [hks] at h; exact h)⟩
  have hl : k < L.length := (List.getElem?_eq_some_iff.mp hk).1
  have G2 : GOk (W.own F (L.set k (p, vs')) oF nF') (upd H p (.lst vs')) σ (Γ.set i (some (T (Ol.mk p vs' bs)))) := by
    refine ⟨⟨W.st _ _ _ G.ok.1 nmu, fun x hx => ?_⟩, fun a o m z => ?_, fun j t ht => ?_, by rw [List.length_set]; exact G.len⟩
    · obtain ⟨j, hj⟩ := List.getElem?_of_mem hx
      rw [List.getElem?_set] at hj
      by_cases e : k = j
      · rw [if_pos e, if_pos hl] at hj
        cases hj
        exact upd_same
      · rw [if_neg e] at hj
        have hne : x.1 ≠ p := fun z => by
          have h1 : (keys L)[j]? = some p := by rw [List.getElem?_map, hj, ← z]; rfl
          have h2 : (keys L)[k]? = some p := by rw [List.getElem?_map, hk]; rfl
          exact e ((List.getElem?_inj (by rw [List.length_map]; exact hl) nd).mp (h2.trans h1.symm))
        rw [upd_ne hne]
        exact G.ok.2 x (List.mem_of_getElem? hj)
    · have hne : a ≠ p := fun e => by rw [e, nF p hmem] at z; cases z
      rw [upd_ne hne]
      exact G.wish a o m z
    · show ∃ v, σ[j]? = some (some v) ∧ t.den (W.toWc.plusL (keys (L.set k (p, vs')))) _ v
      rw [hks]
      by_cases e : i = j
      · subst e
        have hl2 : i < Γ.length := by
          have := (List.getElem?_eq_some_iff.mp hi).1
          rw [G.len] at this
          exact this
        rw [List.getElem?_set_self hl2] at ht
        cases ht
        exact ⟨_, hi, rfl, hb.imp fun _ _ d => Rep.mono kp d⟩
      · rw [List.getElem?_set_ne e] at ht
        obtain ⟨v, h1, h2⟩ := G.at_ j t ht
        exact ⟨v, h1, Ty.mono kp h2⟩
  exact O.nx _ oF nF' σ _ _ s (by rw [hks]; exact nd) G2 q
theorem ol_at {Wo : Wd} {H : Hp} {σ : L2.St} {α : Type} {rα : Rep α} {i : Nat} {p : Addr} {vs : List V} {as : List α} (G : GOk Wo H σ Γ) (h : Γ[i]? = some (some (T (Ol.mk p vs as)))) : σ[i]? = some (some (.ref p)) ∧ Dl (den Wo H) vs as := by
  obtain ⟨v, h1, h2, h3⟩ := G.at_ i _ h
  subst h2
  exact ⟨h1, h3⟩
/-- xs.append(e), xs an own list -/
theorem sxm_append {α : Type} {rα : Rep α} {K : PySem.W.Frag} {i : Nat} (k : Nat) {p : Addr} {vs : List V} {as : List α} (hk : L[k]? = some (p, vs)) (hi : Γ[i]? = some (some (T (Ol.mk p vs as))))
    (h : ∀ Wo, OwnW W L Wo → EvK Wo te Γ fun a : α => as.length < 100000 ∧ ∀ v, R.nx (L.set k (p, vs ++ [v])) (Γ.set i (some (T (Ol.mk p (vs ++ [v]) (as ++ [a])))))) : SxM W F (tDrop (tBM K "list" rAppend (tVar i) (tCons te tNil))) L Γ R := fun D σ H oF nF wF nd G O => by
  obtain ⟨h1, h2⟩ := ol_at G hi
  refine ⟨_, h1, .inl ⟨rfl, _, .inl (.inl (G.ok.2 _ (List.mem_of_getElem? hk)))⟩, ?_⟩
  refine h _ (own_w wF) σ H _ G fun v H1 a e1 d ⟨hl, q⟩ => ?_
  have G1 := G.ext e1
  refine ⟨p, vs, v, rfl, rfl, G1.ok.2 _ (List.mem_of_getElem? hk), Nat.lt_of_lt_of_le (by rw [h2.length]; exact hl) (by decide : 100000 ≤ sizeLine), ?_⟩
  exact own_put nd G1 (O.step G1.ok.1 (own_stp e1)) hk h1 (Dl.append (h2.imp fun _ _ d => Rep.mono e1.keep d) (.cons d .nil)) (q v)
theorem Dl.set {α : Type} {f : V → α → Prop} : ∀ {vs : List V} {as : List α} {m : Nat} {v : V} {a : α}, Dl f vs as → f v a → Dl f (vs.set m v) (as.set m a)
  | _, _, _, _, _, .nil, _ => .nil
  | _, _, 0, _, _, .cons _ y, h => .cons h y
  | _, _, m + 1, _, _, .cons x y, h => .cons x (y.set h)
/-- xs[j] = e, xs an own list -/
theorem sxm_put {α : Type} {rα : Rep α} {i : Nat} (k : Nat) {ti : TE} {p : Addr} {vs : List V} {as : List α} (hk : L[k]? = some (p, vs)) (hi : Γ[i]? = some (some (T (Ol.mk p vs as))))
    (h : ∀ Wo, OwnW W L Wo → EvK Wo te Γ fun a : α => EvK Wo ti Γ fun j : Int => ∃ m, ixN as.length j = some m ∧ ∀ v, R.nx (L.set k (p, vs.set m v)) (Γ.set i (some (T (Ol.mk p (vs.set m v) (as.set m a)))))) : SxM W F (tAsg te (gSub (tVar i) ti rSetL)) L Γ R := fun D σ H oF nF wF nd G O => by
  refine h _ (own_w wF) σ H _ G fun v H1 a e1 d h' => ?_
  have G1 := G.ext e1
  obtain ⟨h1, h2⟩ := ol_at G1 hi
  refine ⟨_, h1, ?_⟩
  refine h' σ H1 _ G1 fun w H2 j e2 dj ⟨m, hm, q⟩ => ?_
  have G2 := G1.ext e2
  obtain ⟨_, h3⟩ := ol_at G2 hi
  refine ⟨p, vs, j, m, rfl, dj, G2.ok.2 _ (List.mem_of_getElem? hk), by rw [h3.length]; exact hm, ?_⟩
  exact own_put nd G2 (O.step G2.ok.1 (own_stp (e1.trans e2))) hk h1 (h3.set (Rep.mono e2.keep d)) (q v)
/-- for x in a list, with own lists -/
theorem sxm_forL {α : Type} {rα : Rep α} {K : PySem.W.Frag} (hK : W.B.K = K) (h : ∀ Wo, OwnW W L Wo → EvK Wo te Γ fun as : List α => ∃ I : Nat → Own → Gam → Prop, I 0 L Γ ∧
      (∀ i L' Γ', I i L' Γ' → keys L' = keys L) ∧
      (∀ (i : Nat) (a : α) L' Γ', as[i]? = some a → I i L' Γ' → ∀ Wo', OwnW W L' Wo' → Tg Wo' g Γ' a fun Γ1 => SxM W F t L' Γ1 { R with nx := I (i + 1), ct := I (i + 1), bk := R.nx }) ∧ ∀ L' Γ', I as.length L' Γ' → R.nx L' Γ') : SxM W F (tFor (iList K te) g t) L Γ R := by
  subst hK
  refine fun D σ H oF nF wF nd G O => h _ (own_w wF) σ H _ G fun v H1 as e1 ⟨p, vs, hv, hp, hd⟩ ⟨I, h0, hI, hs, hl⟩ => ?_
  have hB : (W.own F L oF nF).B.K = W.B.K := congrArg Bs.K plusL_B
  have G1 := G.ext e1
  have O1 := O.step G1.ok.1 (own_stp e1)
  have sq : ∀ H', Kp (W.toWc.plusL (keys L)) H1 H' → SqL W.B.K H' p vs := fun H' kk => .inl (.inl (kk _ _ hp.1 hp.2))
  refine ⟨p, hv, ⟨vs, sq H1 fun _ _ _ z => z⟩, for_list (K := W.B.K) (a := p) (xs := vs) (fun i σ' H' => ∃ L' oF nF Γ', Stp W L H1 L' H' ∧ (keys L').Nodup ∧ GOk (W.own F L' oF nF) H' σ' Γ' ∧ I i L' Γ') ⟨L, oF, nF, Γ, .refl, nd, G1, h0⟩ (fun i σ' H' _ ⟨L', _, _, Γ', s, _⟩ => sq H' s.1) ?_ ?_⟩
  · rintro i x σ' H' hx ⟨L', oF', nF', Γ', s, nd', G', q⟩
    obtain ⟨a, ha, da⟩ := (hd.imp fun _ _ d => Rep.mono s.1 d).at hx
    obtain ⟨js, hj⟩ := hs i a L' Γ' ha q _ (own_w (oF := oF') (nF := nF') wF)
    have da' : den (W.own F L' oF' nF').toWc H' x a := by
      show den (W.toWc.plusL (keys L')) H' x a
      rw [hI i L' Γ' q]
      exact da
    refine hj σ' H' x _ G' da' fun σ2 Γ2 G2 _ q2 => ?_
    exact q2 _ σ2 H' oF' nF' wF nd' G2 ⟨fun L3 oF3 nF3 σ3 H3 Γ3 s3 nd3 G3 q3 => ⟨L3, oF3, nF3, Γ3, s.trans G'.ok.1 s3, nd3, G3, q3⟩, fun v3 H3 t3 e3 d3 q3 => O.rt v3 H3 t3 e3 d3 q3,
      fun L3 oF3 nF3 σ3 H3 Γ3 s3 nd3 G3 q3 => O1.nx L3 oF3 nF3 σ3 H3 Γ3 (s.trans G'.ok.1 s3) nd3 G3 q3, fun L3 oF3 nF3 σ3 H3 Γ3 s3 nd3 G3 q3 => ⟨L3, oF3, nF3, Γ3, s.trans G'.ok.1 s3, nd3, G3, q3⟩⟩
  · rintro σ' H' ⟨L', oF', nF', Γ', s, nd', G', q⟩
    rw [hd.length] at q
    exact O1.nx L' oF' nF' σ' H' Γ' s nd' G' (hl L' Γ' q)
/-- for x in range(n), with own lists -/
theorem sxm_forR (h : ∀ Wo, OwnW W L Wo → EvK Wo te Γ fun n : Int => (-(2 ^ 62) ≤ n ∧ n < 2 ^ 62) ∧ ∃ I : Nat → Own → Gam → Prop, I 0 L Γ ∧
      (∀ (i : Nat) L' Γ', i < n.toNat → I i L' Γ' → ∀ Wo', OwnW W L' Wo' → Tg Wo' g Γ' (i : Int) fun Γ1 => SxM W F t L' Γ1 { R with nx := I (i + 1), ct := I (i + 1), bk := R.nx }) ∧ ∀ L' Γ', I n.toNat L' Γ' → R.nx L' Γ') : SxM W F (tFor (iRng1 (tCons te tNil)) g t) L Γ R := by
  refine fun D σ H oF nF wF nd G O => h _ (own_w wF) σ H _ G fun v H1 n e1 hv ⟨⟨b1, b2⟩, I, h0, hs, hl⟩ => ?_
  have G1 := G.ext e1
  have O1 := O.step G1.ok.1 (own_stp e1)
  refine ⟨n, congrArg (fun x => [x]) hv, b1, b2, for_range (lo := 0) (n := n.toNat) (fun i σ' H' => ∃ L' oF nF Γ', Stp W L H1 L' H' ∧ (keys L').Nodup ∧ GOk (W.own F L' oF nF) H' σ' Γ' ∧ I i L' Γ') ⟨L, oF, nF, Γ, .refl, nd, G1, h0⟩ ?_ ?_⟩
  · rintro i σ' H' hi ⟨L', oF', nF', Γ', s, nd', G', q⟩
    obtain ⟨js, hj⟩ := hs i L' Γ' hi q _ (own_w (oF := oF') (nF := nF') wF)
    refine hj σ' H' _ _ G' (by show V.int ((0 : Int) + i) = .int i; rw [Int.zero_add]) fun σ2 Γ2 G2 _ q2 => ?_
    exact q2 _ σ2 H' oF' nF' wF nd' G2 ⟨fun L3 oF3 nF3 σ3 H3 Γ3 s3 nd3 G3 q3 => ⟨L3, oF3, nF3, Γ3, s.trans G'.ok.1 s3, nd3, G3, q3⟩, fun v3 H3 t3 e3 d3 q3 => O.rt v3 H3 t3 e3 d3 q3,
      fun L3 oF3 nF3 σ3 H3 Γ3 s3 nd3 G3 q3 => O1.nx L3 oF3 nF3 σ3 H3 Γ3 (s.trans G'.ok.1 s3) nd3 G3 q3, fun L3 oF3 nF3 σ3 H3 Γ3 s3 nd3 G3 q3 => ⟨L3, oF3, nF3, Γ3, s.trans G'.ok.1 s3, nd3, G3, q3⟩⟩
  · rintro σ' H' ⟨L', oF', nF', Γ', s, nd', G', q⟩
    exact O1.nx L' oF' nF' σ' H' Γ' s nd' G' (hl L' Γ' q)

/-! ### own lists seen as plain ones -/
inductive Frz (L : Own) : Gam → Gam → Prop
  | nil : Frz L [] []
  | own {α : Type} {rα : Rep α} {p : Addr} {vs : List V} {as : List α} {Γ Γ' : Gam} : (p, vs) ∈ L → Frz L Γ Γ' → Frz L (some (T (Ol.mk p vs as)) :: Γ) (some (T as) :: Γ')
  | same {t : Option Ty} {Γ Γ' : Gam} : Frz L Γ Γ' → Frz L (t :: Γ) (t :: Γ')
theorem Frz.len {Γ Γ' : Gam} (h : Frz L Γ Γ') : Γ.length = Γ'.length := by
  induction h with
  | nil => rfl
  | own _ _ ih => exact congrArg (· + 1) ih
  | same _ ih => exact congrArg (· + 1) ih
theorem frz_slots {H : Hp} {Γ Γ' : Gam} (nm : ∀ k ∈ keys L, ¬ W.mu k) (pin : ∀ x ∈ L, H x.1 = some (.lst x.2)) (f : Frz L Γ Γ') : ∀ (i : Nat) (t : Ty), Γ'[i]? = some (some t) → (∀ u v, Γ[i]? = some (some u) → u.den (W.toWc.plusL (keys L)) H v → t.den W.toWc H v) ∧ ∃ u, Γ[i]? = some (some u) := by
  induction f with
  | nil => intro i t h; simp at h
  | @own α rα p vs as Γ Γ' hm _ ih =>
    intro i t h
    cases i with
    | zero =>
      have h' : some (some (T as)) = some (some t) := by simpa using h
      cases h'
      refine ⟨fun u v hu hd => ?_, _, rfl⟩
      have hu' : some (some (T (Ol.mk p vs as))) = some (some u) := by simpa using hu
      cases hu'
      obtain ⟨hv, hb⟩ := hd
      exact ⟨p, vs, hv, ⟨nm p (List.mem_map.mpr ⟨_, hm, rfl⟩), pin _ hm⟩, hb.imp fun _ _ d => shrinkL (t := T _) d⟩
    | succ i => exact ih i t (by simpa using h)
  | @same t0 Γ Γ' _ ih =>
    intro i t h
    cases i with
    | zero =>
      have h' : some t0 = some (some t) := by simpa using h
      cases h'
      refine ⟨fun u v hu hd => ?_, _, rfl⟩
      have hu' : some (some t) = some (some u) := by simpa using hu
      cases hu'
      exact shrinkL hd
    | succ i => exact ih i t (by simpa using h)
/-- own lists come to rest: from now on they do not change -/
theorem sxm_freeze {Γ' : Gam} (f : Frz L Γ Γ') (h : SxM W F t [] Γ' R) : SxM W F t L Γ R := fun D σ H oF nF wF nd G O => by
  have nm : ∀ k ∈ keys L, ¬ W.mu k := fun k hk => fresh_mu oF (nF k hk)
  have G' : GOk (W.own F [] oF fun _ z => nomatch z) H σ Γ' := ⟨⟨G.ok.1, fun _ z => nomatch z⟩, G.wish, fun i t ht => by
    obtain ⟨h1, u, hu⟩ := frz_slots nm G.ok.2 f i t ht
    obtain ⟨v, h2, h3⟩ := G.at_ i u hu
    exact ⟨v, h2, h1 u v hu h3⟩, G.len.trans f.len⟩
  refine h D σ H oF (fun _ z => nomatch z) wF .nil G' ⟨fun L' oF' nF' σ' H' Γ2 s nd' G2 q => O.nx L' oF' nF' σ' H' Γ2 ?_ nd' G2 q, O.rt, fun L' oF' nF' σ' H' Γ2 s nd' G2 q => O.bk L' oF' nF' σ' H' Γ2 ?_ nd' G2 q, fun L' oF' nF' σ' H' Γ2 s nd' G2 q => O.ct L' oF' nF' σ' H' Γ2 ?_ nd' G2 q⟩ <;>
  exact ⟨fun a o m z => s.1 a o (fun q => m (plusL_mu.mpr (.inl q))) z, fun k hk => .inr ((s.2 k hk).resolve_left fun z => nomatch z)⟩
/-- data that holds no list -/
class NoLst (α : Type) [Rep α] : Prop where
  at_ : ∀ {W : Wc} {H : Hp} {v : V} {a : α} {D : Addr} {xs : List V}, H D = some (.lst xs) → den W H v a → den (W.plus D) H v a
instance : NoLst Int := ⟨fun _ h => h⟩
instance : NoLst Bool := ⟨fun _ h => h⟩
instance : NoLst Str := ⟨fun _ h => h⟩
instance : NoLst Unit := ⟨fun _ h => h⟩
theorem tq_nl {W : Wc} {H : Hp} {p D : Addr} {vs xs : List V} (h : H D = some (.lst xs)) (s : Tq W H p vs) : Tq (W.plus D) H p vs :=
  ⟨fun z => z.elim s.1 (fun z => by have s2 := s.2; rw [z, h] at s2; cases s2), s.2⟩
instance {α β : Type} [Rep α] [Rep β] [NoLst α] [NoLst β] : NoLst (α × β) := ⟨fun h ⟨p, x, y, hv, s, h1, h2⟩ => ⟨p, x, y, hv, tq_nl h s, NoLst.at_ h h1, NoLst.at_ h h2⟩⟩
instance {α β γ : Type} [Rep α] [Rep β] [Rep γ] [NoLst α] [NoLst β] [NoLst γ] : NoLst (T3 α β γ) := ⟨fun h ⟨p, x, y, z, hv, s, h1, h2, h3⟩ => ⟨p, x, y, z, hv, tq_nl h s, NoLst.at_ h h1, NoLst.at_ h h2, NoLst.at_ h h3⟩⟩
instance : NoLst Stc := ⟨fun h ⟨a, dx, hv, m, e⟩ => ⟨a, dx, hv, fun z => z.elim m (fun z => by rw [z, h] at e; cases e), e⟩⟩
theorem nolst_all {α : Type} [Rep α] [NoLst α] {W : Wc} {H : Hp} {v : V} {a : α} : ∀ {ks : List Addr}, (∀ k ∈ ks, ∃ xs, H k = some (.lst xs)) → den W H v a → den (W.plusL ks) H v a
  | [], _, h => h
  | k :: r, n, h => by
    obtain ⟨xs, e⟩ := n k List.mem_cons_self
    exact NoLst.at_ e (nolst_all (fun x hx => n x (List.mem_cons_of_mem _ hx)) h)
section
variable {oF : W.ok F} {nF : ∀ k ∈ keys L, F k = none}
theorem look_gok {H : Hp} {σ : L2.St} {Γ' : Gam} (wF : W.wish F) (f : Frz L Γ Γ') (G : GOk (W.own F L oF nF) H σ Γ) : GOk W H σ Γ' := by
  have nm : ∀ k ∈ keys L, ¬ W.mu k := fun k hk => fresh_mu oF (nF k hk)
  exact ⟨G.ok.1, W.wst F H G.wish G.ok.1 wF, fun i t ht => by
    obtain ⟨h1, u, hu⟩ := frz_slots nm G.ok.2 f i t ht
    obtain ⟨v, h2, h3⟩ := G.at_ i u hu
    exact ⟨v, h2, h1 u v hu h3⟩, G.len.trans f.len⟩
theorem look_ext {H H' : Hp} (o : (W.own F L oF nF).ok H) (e : Ext W H H') : Ext (W.own F L oF nF) H H' := ⟨fun a u m z => e.keep a u (fun q => m (plusL_mu.mpr (.inl q))) z, e.ok, fun x hx =>
  e.keep _ _ (fresh_mu oF (nF x.1 (List.mem_map.mpr ⟨x, hx, rfl⟩))) (o.2 x hx)⟩
theorem look_den {α : Type} [Rep α] [NoLst α] {H : Hp} {v : V} {a : α} (o : (W.own F L oF nF).ok H) (d : den W H v a) : den (W.own F L oF nF).toWc H v a :=
  nolst_all (fun k hk => by obtain ⟨x, hx, rfl⟩ := List.mem_map.mp hk; exact ⟨_, o.2 x hx⟩) d
/-- an expression that looks at own lists and gives data without lists -/
theorem look_K {α : Type} [rα : Rep α] [NoLst α] {Γ' : Gam} {k : α → Prop} (wF : W.wish F) (f : Frz L Γ Γ') (h : EvK W te Γ' k) : EvK (W.own F L oF nF) te Γ k := fun σ H Q G c =>
  h σ H Q (look_gok wF f G) fun v H' a e d q => c v H' a (look_ext G.ok e) (look_den (look_ext G.ok e).ok d) q
theorem look_T {Γ' : Gam} {k : Bool → Prop} (wF : W.wish F) (f : Frz L Γ Γ') (h : EvT W tt Γ' k) : EvT (W.own F L oF nF) tt Γ k := fun σ H Q G c =>
  h σ H Q (look_gok wF f G) fun H' b e q => c H' b (look_ext G.ok e) q
end
theorem sxm_ifB {Γ' : Gam} (f : Frz L Γ Γ') (h : EvT W tt Γ' fun b => (b = true → SxM W F t L Γ R) ∧ (b = false → SxM W F u L Γ R)) : SxM W F (tIfS tt t u) L Γ R := fun D σ H oF nF wF nd G O =>
  look_T wF f h σ H _ G fun H1 b e1 ⟨h1, h2⟩ => by
    have G1 := G.ext e1
    cases b with
    | true => exact h1 rfl D σ H1 oF nF wF nd G1 (O.step G1.ok.1 (own_stp e1))
    | false => exact h2 rfl D σ H1 oF nF wF nd G1 (O.step G1.ok.1 (own_stp e1))
theorem sxm_setB {α : Type} {rα : Rep α} [NoLst α] {Γ' : Gam} {i : Nat} (f : Frz L Γ Γ') (h : EvK W te Γ' fun a : α => R.nx L (Γ.set i (some (T a)))) : SxM W F (tAsg te (gName i)) L Γ R := fun D σ H oF nF wF nd G O =>
  look_K wF f h σ H _ G fun v H1 a e1 d q => by
    have G1 := G.ext e1
    exact O.nx L oF nF _ H1 _ (own_stp e1) nd (G1.set i (t := T a) d) q
theorem sxm_retB {α : Type} {rα : Rep α} {Γ' : Gam} (f : Frz L Γ Γ') (h : EvK W te Γ' fun a : α => R.rt (T a)) : SxM W F (tRet te) L Γ R := fun D σ H oF nF wF nd G O =>
  h σ H _ (look_gok wF f G) fun v H1 a e1 d q => O.rt v H1 (T a) (Ext.trans (W := W) ⟨G.wish, G.ok.1⟩ e1) d q
theorem sxm_appendB {α : Type} {rα : Rep α} [NoLst α] {K : PySem.W.Frag} {i : Nat} (k : Nat) {p : Addr} {vs : List V} {as : List α} {Γ' : Gam} (hk : L[k]? = some (p, vs)) (hi : Γ[i]? = some (some (T (Ol.mk p vs as)))) (f : Frz L Γ Γ')
    (h : EvK W te Γ' fun a : α => as.length < 100000 ∧ ∀ v, R.nx (L.set k (p, vs ++ [v])) (Γ.set i (some (T (Ol.mk p (vs ++ [v]) (as ++ [a])))))) : SxM W F (tDrop (tBM K "list" rAppend (tVar i) (tCons te tNil))) L Γ R := fun D σ H oF nF wF nd G O => by
  obtain ⟨h1, h2⟩ := ol_at G hi
  refine ⟨_, h1, .inl ⟨rfl, _, .inl (.inl (G.ok.2 _ (List.mem_of_getElem? hk)))⟩, ?_⟩
  refine look_K wF f h σ H _ G fun v H1 a e1 d ⟨hl, q⟩ => ?_
  have G1 := G.ext e1
  refine ⟨p, vs, v, rfl, rfl, G1.ok.2 _ (List.mem_of_getElem? hk), Nat.lt_of_lt_of_le (by rw [h2.length]; exact hl) (by decide : 100000 ≤ sizeLine), ?_⟩
  exact own_put nd G1 (O.step G1.ok.1 (own_stp e1)) hk h1 (Dl.append (h2.imp fun _ _ d => Rep.mono e1.keep d) (.cons d .nil)) (q v)
theorem sxm_putB {α : Type} {rα : Rep α} [NoLst α] {i : Nat} (k : Nat) {ti : TE} {p : Addr} {vs : List V} {as : List α} {Γ' : Gam} (hk : L[k]? = some (p, vs)) (hi : Γ[i]? = some (some (T (Ol.mk p vs as)))) (f : Frz L Γ Γ')
    (h : EvK W te Γ' fun a : α => EvK W ti Γ' fun j : Int => ∃ m, ixN as.length j = some m ∧ ∀ v, R.nx (L.set k (p, vs.set m v)) (Γ.set i (some (T (Ol.mk p (vs.set m v) (as.set m a)))))) : SxM W F (tAsg te (gSub (tVar i) ti rSetL)) L Γ R := fun D σ H oF nF wF nd G O => by
  refine look_K wF f h σ H _ G fun v H1 a e1 d h' => ?_
  have G1 := G.ext e1
  obtain ⟨h1, h2⟩ := ol_at G1 hi
  refine ⟨_, h1, ?_⟩
  refine look_K wF f h' σ H1 _ G1 fun w H2 j e2 dj ⟨m, hm, q⟩ => ?_
  have G2 := G1.ext e2
  obtain ⟨_, h3⟩ := ol_at G2 hi
  refine ⟨p, vs, j, m, rfl, dj, G2.ok.2 _ (List.mem_of_getElem? hk), by rw [h3.length]; exact hm, ?_⟩
  exact own_put nd G2 (O.step G2.ok.1 (own_stp (e1.trans e2))) hk h1 (h3.set (Rep.mono e2.keep d)) (q v)
theorem evF_lst {α : Type} {rα : Rep α} {Wo : Wd} {ta : TA} {k : List α → Prop} (h : EvL Wo ta Γ fun as => as.length ≤ 100000 ∧ k as) : EvF Wo (tLst ta) Γ k := fun σ H Q E c =>
  h σ H _ E fun vs H1 as e1 ds ⟨hl, z⟩ => ⟨Nat.le_trans (by rw [ds.length]; exact hl) (by decide : 100000 ≤ sizeLine), fun p hp => by
    have e2 := Ext.new (o := .lst vs) e1.ok hp
    exact c p _ vs as (fresh_back e1.ok e1 hp) (e1.trans e2) upd_same (ds.imp fun _ _ d => Rep.mono (W := Wo.toWc.plus p) (fun b o m z => by rw [upd_ne (ne_of_none z hp)]; exact z) (Rep.grow p hp d)) z⟩
end
end G
set_option Elab.async false
set_option linter.all false
set_option maxRecDepth 100000
set_option maxHeartbeats 2000000
namespace G
open PySem PySem.Spec PyProof.Rows L2 StX

/-! ### further rules of the hand layer: own lists, classes held in names, star calls, class methods, properties -/
section
variable {X : Cx} {CX : CXT} {k n : Nat} {f g C p : Addr} {sp : Sp} {E : L2.St → XK} {x m : Str} {o e e2 : Expr} {es : List Expr} {te to tb : TE} {t : TA} {pp sp_ pos apos : Pos} {mc : Value}
theorem pe_appendK (K : PySem.W.Frag) (ho : PE X o to) (ha : PA X (e :: es) t) (hK : X.K = K := by rfl)
    (hbase : attributeBase o "append" X.env (eval o X.env) = eval o X.env := by rfl)
    (hfew : ((backTo pos (starEach (e :: es) X.env)).all (fun x => !x.1) && (backToKw pos (keywordEach [] X.env)).all (fun x => x.1.isSome)
      && decide ((e :: es).length + ([] : List Keyword).length + (if ([] : List Keyword).isEmpty then 0 else 1) < 30)) = true := by rfl)
    (hline : (apos.endLine == pos.line) = true := by rfl) (hs : starEach (e :: es) X.env = (false, eval e X.env) :: starEach es X.env := by rfl) (hplain : (backTo pos (starEach es X.env)).any (·.1) = false := by rfl) :
    PE X (.Call (.Attribute o "append" apos) (e :: es) [] pos) (tBM K "list" rAppend to t) := by
  subst hK
  exact pe_bm PySem.F.plainAttrs_list PySem.F.slot_list_append PySem.F.type_list_append mt_append ho ha hbase hfew hline hs hplain
/-- x(e, ..), x a local name that holds the class at C -/
def tMakeV (i : Nat) (C : Addr) (sp : Sp) (E : L2.St → XK) (t : TA) : TE := fun σ H Q => ∃ v, σ[i]? = some (some v) ∧ v = .ref C ∧ tMakeZ C sp E t σ H Q
theorem pe_makeV {i : Nat} (M : Mk X.K C f) (F : FnR X.prog X.w X.K X.mg X.base CX k f sp) (hr : Room (k + 1) X.A) (hx : ∀ σ, PassesAt CX X σ (E σ)) (hN : X.N[i]? = some x) (hv : Vis X.env.scope x)
    (ha : PA X (e :: es) t) (hdb : (x == ("__debug__" : Str)) = false := by decide) (hcd : (x == ("__classdict__" : Str)) = false := by decide) (he : starEach (e :: es) X.env = (false, eval e X.env) :: starEach es X.env := by rfl) (hpl : (backTo pos (starEach es X.env)).any (·.1) = false := by rfl) :
    PE X (.Call (.Name x pp) (e :: es) [] pos) (tMakeV i C sp E t) := by
  refine ⟨fun pins s σ H Q I h => ?_⟩
  obtain ⟨v, h1, h2, h3⟩ := h
  subst h2
  refine wpAny_Call_Name_kw (thn ((pe_var (pos := pp) hN hv hdb hcd).run pins s σ H (fun v H' => v = .ref C ∧ tMakeZ C sp E t σ H' Q) I ⟨_, h1, rfl, h3⟩) fun u s1 ⟨y, H1, I1, ry, ey, q⟩ => ?_)
  subst ey
  obtain rfl : u = Value.ref C := ry
  exact PySem.W.callWith_K (h₀ := X.base) I1.ok.mod.kin M.kp (thn (ha.run pos pins s1 σ H1 _ I1 q) fun us s2 ⟨vs, H2, I2, r, q2⟩ => ⟨I2.kIn, run_makeZ M F hr (hx σ) I2 r q2⟩) he hpl
/-- a star call's items -/
def tStarZ (K : PySem.W.Frag) (te : TE) : TA := fun σ H Q => te σ H fun y H1 => ∃ a xs, y = V.ref a ∧ (SqT K H1 a xs ∨ SqL K H1 a xs) ∧ Q xs H1
/-- C(*y) -/
theorem pe_makeSZ (K : PySem.W.Frag) (M : Mk X.K C f) (F : FnR X.prog X.w X.K X.mg X.base CX k f sp) (hr : Room (k + 1) X.A) (hg : Gl X x) (hm : X.mg x = some (.ref C)) (hx : ∀ σ, PassesAt CX X σ (E σ))
    (he : PE X e te) (hK : X.K = K := by rfl) (hd : (x == ("__debug__" : Str)) = false := by decide) (hst : starEach [.Starred e sp_] X.env = [(true, eval e X.env)] := by rfl) :
    PE X (.Call (.Name x pp) [.Starred e sp_] [] pos) (tMakeZ C sp E (tStarZ K te)) := by
  subst hK
  refine ⟨fun pins s σ H Q I h => ?_⟩
  refine wpAny_Call_Name_kw (ld_glob I hg hm ?_ hd)
  refine PySem.W.callWith_S (h₀ := X.base) I.ok.mod.kin M.kp (thn (he.run pins s σ H _ I h) fun v s1 ⟨y, H1, I1, ry, a, xs, ey, hxs, q⟩ => ?_) hst
  subst ey
  obtain rfl : v = Value.ref a := ry
  exact star_any I1 hxs fun us s2 I2 rv => ⟨I2.kIn, run_makeZ M F hr (hx σ) I2 rv q⟩
/-- x(*y), x a local name that holds the class at C -/
theorem pe_makeSV (K : PySem.W.Frag) {i : Nat} (M : Mk X.K C f) (F : FnR X.prog X.w X.K X.mg X.base CX k f sp) (hr : Room (k + 1) X.A) (hx : ∀ σ, PassesAt CX X σ (E σ)) (hN : X.N[i]? = some x) (hv : Vis X.env.scope x)
    (he : PE X e te) (hK : X.K = K := by rfl) (hdb : (x == ("__debug__" : Str)) = false := by decide) (hcd : (x == ("__classdict__" : Str)) = false := by decide) (hst : starEach [.Starred e sp_] X.env = [(true, eval e X.env)] := by rfl) :
    PE X (.Call (.Name x pp) [.Starred e sp_] [] pos) (tMakeV i C sp E (tStarZ K te)) := by
  subst hK
  refine ⟨fun pins s σ H Q I h => ?_⟩
  obtain ⟨v, h1, h2, h3⟩ := h
  subst h2
  refine wpAny_Call_Name_kw (thn ((pe_var (pos := pp) hN hv hdb hcd).run pins s σ H (fun v H' => v = .ref C ∧ tMakeZ C sp E (tStarZ X.K te) σ H' Q) I ⟨_, h1, rfl, h3⟩) fun u s0 ⟨y, H0, I0, ry, ey, q0⟩ => ?_)
  subst ey
  obtain rfl : u = Value.ref C := ry
  refine PySem.W.callWith_S (h₀ := X.base) I0.ok.mod.kin M.kp (thn (he.run pins s0 σ H0 _ I0 q0) fun v s1 ⟨y, H1, I1, ry, a, xs, ey, hxs, q⟩ => ?_) hst
  subst ey
  obtain rfl : v = Value.ref a := ry
  exact star_any I1 hxs fun us s2 I2 rv => ⟨I2.kIn, run_makeZ M F hr (hx σ) I2 rv q⟩
/-- C() -/
theorem pe_makeZ0 (M : Mk X.K C f) (F : FnR X.prog X.w X.K X.mg X.base CX k f sp) (hr : Room (k + 1) X.A) (hg : Gl X x) (hm : X.mg x = some (.ref C)) (hx : ∀ σ, PassesAt CX X σ (E σ)) (hdb : (x == ("__debug__" : Str)) = false := by decide) :
    PE X (.Call (.Name x pp) [] [] pos) (tMakeZ C sp E tNil) := by
  refine ⟨fun pins s σ H Q I h => ?_⟩
  refine wpAny_Call_Name_kw (ld_glob I hg hm ?_ hdb)
  exact PySem.W.callWith_K0 I.kIn M.kp (run_makeZ M F hr (hx σ) I .nil h)
/-- C.m(e, ..), a class method -/
def tCMethZ (C : Addr) (sp : Sp) (E : L2.St → XK) (t : TA) : TE := fun σ H Q => t σ H fun vs H2 => sp (.ref C :: vs) H2 Q (E σ)
theorem cd_fnRS {pins : List (Addr × Obj)} {σ : L2.St} {H : Hp} {s : Shared} {E : XK} {Q : VK} {us : List Value} {vs : List V} (F : FnR X.prog X.w X.K X.mg X.base CX k f sp) (hr : Room k X.A) (hx : PassesAt CX X σ E) (I : L2.Inv X pins σ H s) (r : Vals vs us) (q : sp vs H Q E) :
    codeAny (model X.prog X.w) X.A (.call (.ref f) ⟨us, []⟩) (fun r s' => match r with
      | .ok (.ret v) => EP X pins σ Q v s'
      | .ok _ => False
      | .error e => X.xe e s') s := by
  refine codeAny_mono (F _ X.stack _ _ us _ _ E hr I.env0 r q) fun r s' h => ?_
  cases r with
  | error e => exact hx pins H s e s' I h
  | ok fl =>
    cases fl with
    | ret u =>
      obtain ⟨v, H2, os2, bare2, un2, hok2, rv, qv⟩ := h
      exact ⟨v, H2, I.call' os2 un2 hok2 bare2 (fun b hb => (nomatch hb)), rv, qv⟩
    | next => exact False.elim h
    | brk => exact False.elim h
    | cont => exact False.elim h
theorem run_cmZ {pins : List (Addr × Obj)} {σ : L2.St} {H : Hp} {s : Shared} {q : Addr} {E : XK} {Q : VK} {us : List Value} {vs : List V} (F : FnR X.prog X.w X.K X.mg X.base CX k g sp) (hr : Room k X.A) (hx : PassesAt CX X σ E) (I : Inv X ((q, PySem.W.methodObj (.ref g) (.ref C)) :: pins) σ H s)
    (r : Vals vs us) (h : sp (.ref C :: vs) H Q E) : wpAny (model X.prog X.w) X.A (call (.ref q) us) (EP X pins σ Q) X.xe s := by
  have z : wpAny (model X.prog X.w) X.A (call (.ref q) us) (EP X ((q, PySem.W.methodObj (.ref g) (.ref C)) :: pins) σ Q) X.xe s :=
    wpAny_call (PySem.W.method_call (ClX.pin_at I) (cd_fnRS (us := .ref C :: us) (vs := .ref C :: vs) F hr hx I (.cons rfl r) h))
  exact thn z fun _ _ y => ClX.unpinE y
theorem pe_cmethZ {pl : Sem Bool} (r : ClX.CRead X.K C mc) (c : ∃ p, ClX.CMet X.K C mc m p g) (F : FnR X.prog X.w X.K X.mg X.base CX k g sp) (hr : Room k X.A) (hx : ∀ σ, PassesAt CX X σ (E σ)) (hm : X.mg x = some (.ref C)) (ha : PA X (e :: es) t) (hg : Gl X x := by rfl) (hdb : (x == ("__debug__" : Str)) = false := by decide)
    (hst : starEach (e :: es) X.env = (false, eval e X.env) :: starEach es X.env := by rfl) (hpl : (backTo pos (starEach es X.env)).any (·.1) = false := by rfl)
    (ht : eval (.Call (.Attribute (.Name x pp) m apos) (e :: es) [] pos) X.env = (do
      let ov ← eval (.Name x pp) X.env
      standAt apos.atName
      let (f, first) ← holding [ov] (getMethod ov m pl)
      callWith pos f first (backTo pos (starEach (e :: es) X.env)) (backToKw pos (keywordEach [] X.env))) := by rfl) :
    PE X (.Call (.Attribute (.Name x pp) m apos) (e :: es) [] pos) (tCMethZ C sp E t) := by
  obtain ⟨p, c⟩ := c
  refine ⟨fun pins s σ H Q I h => ?_⟩
  refine PySem.W.methodCall_KW (pl := pl) (ld_glob I hg hm ?_ hdb) ht
  refine ClX.getmethcm_ok (I.tok _) r c fun s2 I2 => ?_
  refine ClX.callwith_cm I2 (ClX.base_none (I.tok _) (Nat.le_refl _)) c.fi (thn (ha.run pos _ s2 σ H _ I2 h) fun us s3 ⟨vs, H2, I3, rv, q2⟩ => ⟨⟨ClX.pin_at I3, I3.kIn⟩, ?_⟩) hst hpl
  exact run_cmZ F hr (hx σ) I3 rv q2
/-- e.f, a property that raises nothing, by a promise of values -/
def tPropZ (C : Addr) (sp : Sp) (ta : TE) : TE := fun σ H Q => ta σ H fun x H1 => ∃ a dx fs, x = .ref a ∧ H1 a = some (.ins C dx fs) ∧ sp [.ref a] H1 Q E0
theorem getpropZ_ok {pins : List (Addr × Obj)} {σ : L2.St} {H : Hp} {s : Shared} {Q : VK} {b : Bool} {E' : Value → Shared → Prop} {a dx : Addr} {fs : List (Str × V)} (I : Inv X pins σ H s) (ea : H a = some (.ins C dx fs)) (c : Cls X.K C) (hp : PropOf X.K C m p g)
    (F : FnR X.prog X.w X.K X.mg X.base CX k g sp) (hr : Room (k + 1) X.A) (hx : ∀ {pins σ H s e s'}, Inv X pins σ H s → CX X.stack H s E0 e s' → False) (h : sp [.ref a] H Q E0) :
    wpAny (model X.prog X.w) X.A (getAttr (.ref a) m b) (EP X pins σ Q) E' s := by
  obtain ⟨mA, O, _, _, _, _⟩ := ins_get I.hok ea
  obtain ⟨od, J, _⟩ := O.look
  obtain ⟨rest, hrec⟩ := hp.rec_
  have I1 := I.tok (s.toks + 1)
  have hc : (PySem.W.clsIn X.K C).isSome = true := by
    obtain ⟨cd, hc, _⟩ := PySem.W.any_some c.hd
    rw [hc]
    rfl
  refine PySem.W.get_bind I.kIn J (PySem.W.plainGet_of (c.get m)).1 (PySem.W.findObj_data hc hp.at_ hp.get hp.tak) (PySem.W.plainGet_of (c.get m)).2 (wpAny_call (PySem.W.prop_get (s := { s with toks := s.toks + 1 }) I.kIn hrec ?_))
  refine codeAny_mono (F X.A.in1 X.stack { s with toks := s.toks + 1 } H [.ref a] [.ref a] Q E0 hr.in1 I1.env0.in1 (.cons rfl .nil) h) fun r s' hq => ?_
  cases r with
  | error er => exact (hx I1 hq).elim
  | ok fl =>
    cases fl with
    | ret u =>
      obtain ⟨v, H', I3, rv, q3⟩ := I1.after hq
      show wpAny _ _ (handedOut u) _ _ _
      rw [PySem.W.handedOut_of (handed_of rv)]
      exact wpAny_pure ⟨v, H', I3, rv, q3⟩
    | next => exact False.elim hq
    | brk => exact False.elim hq
    | cont => exact False.elim hq
theorem pe_propZ (he : PE X e te) (c : Cls X.K C) (hp : ∃ p, PropOf X.K C m p g) (F : FnR X.prog X.w X.K X.mg X.base CX k g sp) (hr : Room (k + 1) X.A) (hx : ∀ {pins σ H s e s'}, Inv X pins σ H s → CX X.stack H s E0 e s' → False)
    (hab : attributeBase e m X.env (eval e X.env) = eval e X.env := by rfl) : PE X (.Attribute e m pos) (tPropZ C sp te) := by
  obtain ⟨p, hp⟩ := hp
  refine ⟨fun pins s σ H Q I h => ?_⟩
  refine attr_of hab (thn (he.run pins s σ H _ I h) fun u s1 ⟨x, H1, I1, rx, a, dx, fs, ex, ea, q⟩ => ?_)
  subst ex
  obtain rfl : u = Value.ref a := rx
  exact getpropZ_ok I1 ea c hp F hr hx q
theorem noXL {pins : List (Addr × Obj)} {σ : L2.St} {H : Hp} {s : Shared} {e : Value} {s' : Shared} (I : Inv X pins σ H s) (h : L2.CX X.prog X.w X.stack H s E0 e s') : False := by
  obtain ⟨a, B, H', cls, d, ea, fl, hok, ub, na, os, ag, he⟩ := h
  exact he
theorem noX0 {pins : List (Addr × Obj)} {σ : L2.St} {H : Hp} {s : Shared} {e : Value} {s' : Shared} (I : Inv X pins σ H s) (h : CX0 X.stack H s E0 e s') : False := h
end
end G
set_option Elab.async false
set_option linter.all false
set_option maxRecDepth 100000
set_option maxHeartbeats 2000000
namespace G
open PySem PySem.Spec PyProof.Rows L2 StX

/-! ### classes as values, tuples of any length -/
structure Cv where
  c : Cn
instance : Rep Cv := ⟨fun W _ v a => v = .ref (W.B.cl a.c), fun _ h => h, fun _ _ h => h, fun _ h => h⟩
instance : NoLst Cv := ⟨fun _ h => h⟩
structure Tl (α : Type) where
  xs : List α
instance {α : Type} [Rep α] : Rep (Tl α) :=
  ⟨fun W H v as => ∃ p vs, v = .ref p ∧ Tq W H p vs ∧ Dl (den W H) vs as.xs,
   fun e ⟨p, vs, hv, s, h⟩ => ⟨p, vs, hv, s.mono e, h.imp fun _ _ x => Rep.mono e x⟩,
   fun D n ⟨p, vs, hv, s, h⟩ => ⟨p, vs, hv, s.grow D n, h.imp fun _ _ x => Rep.grow D n x⟩,
   fun D ⟨p, vs, hv, s, h⟩ => ⟨p, vs, hv, s.shrink D, h.imp fun _ _ x => Rep.shrink D x⟩⟩
section
variable {W : Wd} {Γ : Gam} {ta : TA} {te tb to tl : TE} {tt : TT} {g : TG} {B : Bs} {P : PT} {E : L2.St → XK} {x : Xn → Prop} {C : Addr} {K : PySem.W.Frag}
/-- [te for g in a tuple if tt] -/
theorem evF_lcT {α β : Type} {rα : Rep α} {rβ : Rep β} {vs : List Nat} {k : List β → Prop} (hK : W.B.K = K)
    (h : EvK W tl Γ fun as : Tl α => as.xs.length ≤ 100000 ∧ ∃ I : Nat → List β → Prop, I 0 [] ∧ (∀ W', Sub W W' → ∀ (i : Nat) (a : α) (bs : List β), as.xs[i]? = some a → I i bs → LcTurn W' g tt te vs Γ a (I (i + 1) bs) fun y : β => I (i + 1) (bs ++ [y])) ∧ ∀ bs, I as.xs.length bs → k bs) :
    EvF W (tLc (iTup K tl) g tt te vs) Γ k := by
  subst hK
  refine fun σ H Q E c => h σ H _ E fun v H1 as e1 ⟨p, xs, hv, hp, hd⟩ ⟨hl, I, h0, hs, hf⟩ => ⟨p, hv, ⟨xs, hp.sq⟩, fun D n => ?_⟩
  have G1 := E.ext e1
  have eD : Ext W H1 (upd H1 D (.lst [])) := Ext.new e1.ok n
  refine lc_tup (xs := xs) (fun i H' => Ext W H1 H' ∧ ∃ acc bs, H' D = some (.lst acc) ∧ Dl (den (W.toWc.plus D) H') acc bs ∧ acc.length ≤ i ∧ I i bs) ⟨eD, [], [], upd_same, .nil, Nat.le_refl _, h0⟩ (fun i H' _ ⟨e, _⟩ => (hp.mono e.keep).sq) ?_ ?_
  · rintro i x H' hx ⟨e, acc, bs, hD, hb, ha, q⟩
    obtain ⟨a, ea, da⟩ := hd.at hx
    have hil : i < as.xs.length := (List.getElem?_eq_some_iff.mp ea).1
    exact lc_turn (I := I (i + 1)) (P := fun H' => Ext W H1 H' ∧ ∃ acc bs, H' D = some (.lst acc) ∧ Dl (den (W.toWc.plus D) H') acc bs ∧ acc.length ≤ i + 1 ∧ I (i + 1) bs) (hs _ (Sub.plus (n := n) (o1 := e1.ok) (w1 := G1.wish)) i a bs ea q) G1 e hD hb da (by omega) fun H2 acc2 bs2 e2 hD2 hb2 hl2 q2 => ⟨e2, acc2, bs2, hD2, hb2, by omega, q2⟩
  · rintro H' ⟨e, acc, bs, hD, hb, ha, q⟩
    rw [hd.length] at q
    exact c D H' acc bs (fresh_back e1.ok e1 n) (e1.trans e) hD hb (hf bs q)
/-- a pure comprehension gives a new list -/
theorem lcF_turns {α β : Type} {rα : Rep α} {rβ : Rep β} {vs : List Nat} {as : List α} (p : α → Bool) (f : α → β) (hs : ∀ W', Sub W W' → ∀ a ∈ as, LcTurn W' g tt te vs Γ a (p a = false) fun y : β => p a = true ∧ y = f a) :
    ∀ W', Sub W W' → ∀ (i : Nat) (a : α) (bs : List β), as[i]? = some a → bs = ((as.take i).filter p).map f → LcTurn W' g tt te vs Γ a (bs = ((as.take (i + 1)).filter p).map f) fun y : β => bs ++ [y] = ((as.take (i + 1)).filter p).map f := by
  intro W' s i a bs ha e
  have ht : as.take (i + 1) = as.take i ++ [a] := by
    rw [List.take_succ, ha]; rfl
  obtain ⟨js, h1, h2⟩ := hs W' s a (List.mem_of_getElem? ha)
  refine ⟨js, h1, fun σ H v Q E d c => h2 σ H v Q E d fun σ' Γ' G m q2 => c σ' Γ' G m ?_⟩
  intro σ2 H2 Q2 E2 c2
  refine q2 σ2 H2 Q2 E2 fun H3 b e3 ⟨hy, hn⟩ => c2 H3 b e3 ⟨fun hb => (hy hb).imp fun y ⟨hp, hyf⟩ => ?_, fun hb => ?_⟩
  · show bs ++ [y] = ((as.take (i + 1)).filter p).map f
    rw [ht, List.filter_append, List.map_append, ← e, List.filter_cons_of_pos hp, hyf]; rfl
  · show bs = ((as.take (i + 1)).filter p).map f
    rw [ht, List.filter_append, List.map_append, ← e, List.filter_cons_of_neg (by rw [hn hb]; exact Bool.false_ne_true)]; simp
theorem evF_lcF {α β : Type} [rα : Rep α] [rβ : Rep β] {vs : List Nat} {k : List β → Prop} (p : α → Bool) (f : α → β) (hK : W.B.K = K)
    (h : EvK W tl Γ fun as : List α => as.length ≤ 100000 ∧ (∀ W', Sub W W' → ∀ a ∈ as, LcTurn W' g tt te vs Γ a (p a = false) fun y : β => p a = true ∧ y = f a) ∧ k ((as.filter p).map f)) :
    EvF W (tLc (iList K tl) g tt te vs) Γ k := evF_lc hK (h.imp fun as ⟨hl, hs, q⟩ => ⟨hl, fun i bs => bs = ((as.take i).filter p).map f, by simp, lcF_turns p f hs, fun bs e => by rw [e, List.take_length]; exact q⟩)
theorem evF_lcTF {α β : Type} [rα : Rep α] [rβ : Rep β] {vs : List Nat} {k : List β → Prop} (p : α → Bool) (f : α → β) (hK : W.B.K = K)
    (h : EvK W tl Γ fun as : Tl α => as.xs.length ≤ 100000 ∧ (∀ W', Sub W W' → ∀ a ∈ as.xs, LcTurn W' g tt te vs Γ a (p a = false) fun y : β => p a = true ∧ y = f a) ∧ k ((as.xs.filter p).map f)) :
    EvF W (tLc (iTup K tl) g tt te vs) Γ k := evF_lcT hK (h.imp fun as ⟨hl, hs, q⟩ => ⟨hl, fun i bs => bs = ((as.xs.take i).filter p).map f, by simp, lcF_turns p f hs, fun bs e => by rw [e, List.take_length]; exact q⟩)

/-! ### sorted pairs -/
def lexLe (p q : Int × Int) : Bool := decide (p.1 < q.1 ∨ (p.1 = q.1 ∧ p.2 ≤ q.2))
theorem lexLe_iff {p q : Int × Int} : lexLe p q = true ↔ p.1 < q.1 ∨ (p.1 = q.1 ∧ p.2 ≤ q.2) := by unfold lexLe; exact decide_eq_true_iff
theorem lexLe_trans (a b c : Int × Int) (h1 : lexLe a b = true) (h2 : lexLe b c = true) : lexLe a c = true := by rw [lexLe_iff] at *; omega
theorem lexLe_total (a b : Int × Int) : (lexLe a b || lexLe b a) = true := by
  rw [Bool.or_eq_true, lexLe_iff, lexLe_iff]; omega
theorem lexLe_anti (a b : Int × Int) (h1 : lexLe a b = true) (h2 : lexLe b a = true) : a = b := by
  rw [lexLe_iff] at h1 h2
  exact Prod.ext (by omega) (by omega)
def sortP (as : List (Int × Int)) : List (Int × Int) := as.mergeSort lexLe
theorem sortP_perm (as : List (Int × Int)) : (sortP as).Perm as := List.mergeSort_perm _ _
theorem sortP_sorted (as : List (Int × Int)) : (sortP as).Pairwise fun a b => lexLe a b = true := List.pairwise_mergeSort lexLe_trans lexLe_total _
theorem sortP_uniq {as bs : List (Int × Int)} (hp : bs.Perm as) (hs : bs.Pairwise fun a b => lexLe a b = true) : bs = sortP as :=
  List.Perm.eq_of_pairwise (fun a b _ _ => lexLe_anti a b) hs (sortP_sorted as) (hp.trans (sortP_perm as).symm)
theorem sortP_length (as : List (Int × Int)) : (sortP as).length = as.length := (sortP_perm as).length_eq
theorem sortP_mem {as : List (Int × Int)} {a : Int × Int} : a ∈ sortP as ↔ a ∈ as := (sortP_perm as).mem_iff
theorem sortP_congr {as bs : List (Int × Int)} (h : as.Perm bs) : sortP as = sortP bs := sortP_uniq ((sortP_perm as).trans h) (sortP_sorted as)
/-- the ints of a pair that stands in the heap -/
def pairK (H : Hp) (v : V) : Int × Int := match v with
  | .ref t => match H t with
    | some (.tup [.int i, .int j]) => (i, j)
    | _ => (0, 0)
  | _ => (0, 0)
theorem pairK_of {W : Wc} {H : Hp} {v : V} {a : Int × Int} (h : den W H v a) : pairK H v = a ∧ ∃ t, v = V.ref t ∧ H t = some (.tup [.int (pairK H v).1, .int (pairK H v).2]) := by
  obtain ⟨p, x, y, hv, s, h1, h2⟩ := h
  have h1' : x = V.int a.1 := h1
  have h2' : y = V.int a.2 := h2
  subst h1' h2' hv
  have e : pairK H (.ref p) = a := by
    show (match H p with
      | some (.tup [.int i, .int j]) => (i, j)
      | _ => ((0 : Int), (0 : Int))) = a
    rw [s.2]
  exact ⟨e, p, rfl, by rw [e]; exact s.2⟩
theorem dl_pairK {W : Wc} {H : Hp} : ∀ {vs : List V} {as : List (Int × Int)}, Dl (den W H) vs as → vs.map (pairK H) = as
  | _, _, .nil => rfl
  | _, _, .cons x y => by rw [List.map_cons, (pairK_of x).1, dl_pairK y]
theorem Dl.mem {α : Type} {f : V → α → Prop} {v : V} : ∀ {vs : List V} {as : List α}, Dl f vs as → v ∈ vs → ∃ a, a ∈ as ∧ f v a
  | _, _, .nil, h => nomatch h
  | _, _, .cons x y, h => by
    rcases List.mem_cons.mp h with rfl | h
    · exact ⟨_, List.mem_cons_self, x⟩
    · obtain ⟨a, h1, h2⟩ := y.mem h
      exact ⟨a, List.mem_cons_of_mem _ h1, h2⟩
theorem dl_of_map {W : Wc} {H : Hp} : ∀ {vs : List V}, (∀ v ∈ vs, ∃ a : Int × Int, den W H v a) → Dl (den W H) vs (vs.map (pairK H))
  | [], _ => .nil
  | v :: r, h => by
    obtain ⟨a, d⟩ := h v List.mem_cons_self
    refine .cons ?_ (dl_of_map fun w hw => h w (List.mem_cons_of_mem _ hw))
    rw [(pairK_of d).1]
    exact d
theorem evF_sortedP {k : List (Int × Int) → Prop} (hK : W.B.K = K) (h : EvK W te Γ fun as : List (Int × Int) => k (sortP as)) : EvF W (tCB (rSortedPO K) (tCons te tNil)) Γ k := by
  subst hK
  refine fun σ H Q E c => h σ H _ E fun v H1 as e1 ⟨p, vs, hv, hp, hd⟩ z => ?_
  refine ⟨p, vs, pairK H1, by rw [hv], hp.sq, fun x hx => ?_, fun ys q hs hb hn => ?_⟩
  · obtain ⟨a, _, d⟩ := hd.mem hx
    exact (pairK_of d).2
  · have hperm : ys.Perm vs := hb.perm
    have e2 : ys.map (pairK H1) = sortP as := by
      refine sortP_uniq ?_ ?_
      · have := hperm.map (pairK H1)
        rw [dl_pairK hd] at this
        exact this
      · refine List.pairwise_map.mpr (List.Pairwise.imp (fun {a b} hab => ?_) hs)
        have hab' := SrtO.lexB_no.mp hab
        rw [lexLe_iff]
        omega
    have hd2 : Dl (den W H1) ys (sortP as) := by
      rw [← e2]
      exact dl_of_map fun w hw => by
        obtain ⟨a, _, d⟩ := hd.mem (hperm.mem_iff.mp hw)
        exact ⟨a, d⟩
    have e3 := Ext.new (o := .lst ys) e1.ok hn
    exact c q _ ys (sortP as) (fresh_back e1.ok e1 hn) (e1.trans e3) upd_same (hd2.imp fun _ _ d => Rep.mono (W := W.toWc.plus q) (fun b o m z => by rw [upd_ne (ne_of_none z hn)]; exact z) (Rep.grow q hn d)) z

/-! ### any, all, sum, greatest, least -/
theorem dl_bls {vs : List V} {as : List Bool} (h : Dl (fun v (a : Bool) => v = .bl a) vs as) : vs = as.map V.bl := by
  induction h with
  | nil => rfl
  | cons x _ ih => rw [x, ih]; rfl
theorem ev_any {k : Bool → Prop} (hK : W.B.K = K) (h : EvK W te Γ fun as : List Bool => k (as.any id)) : EvK W (tCB (rAny K) (tCons te tNil)) Γ k := by
  subst hK
  exact fun σ H Q E c => h σ H _ E fun v H1 as e1 ⟨p, vs, hv, hp, hd⟩ z => ⟨p, as, by rw [hv], by rw [← dl_bls hd]; exact hp.sq, c _ H1 _ e1 rfl z⟩
theorem ev_all {k : Bool → Prop} (hK : W.B.K = K) (h : EvK W te Γ fun as : List Bool => k (as.all id)) : EvK W (tCB (rAll K) (tCons te tNil)) Γ k := by
  subst hK
  exact fun σ H Q E c => h σ H _ E fun v H1 as e1 ⟨p, vs, hv, hp, hd⟩ z => ⟨p, as, by rw [hv], by rw [← dl_bls hd]; exact hp.sq, c _ H1 _ e1 rfl z⟩
theorem ev_sum {k : Int → Prop} (hK : W.B.K = K) (h : EvK W te Γ fun as : List Int => k as.sum) : EvK W (tCB (rSum K) (tCons te tNil)) Γ k := by
  subst hK
  exact fun σ H Q E c => h σ H _ E fun v H1 as e1 ⟨p, vs, hv, hp, hd⟩ z => ⟨p, as, by rw [hv], by rw [← Dl.ints hd]; exact hp.sq, c _ H1 _ e1 rfl z⟩
theorem ev_maxL {k : Int → Prop} (hK : W.B.K = K) (h : EvK W te Γ fun as : List Int => 0 < as.length ∧ ∀ m, m ∈ as → (∀ y, y ∈ as → y ≤ m) → k m) : EvK W (tCB (rMax K) (tCons te tNil)) Γ k := by
  subst hK
  exact fun σ H Q E c => h σ H _ E fun v H1 as e1 ⟨p, vs, hv, hp, hd⟩ ⟨hl, z⟩ => ⟨p, as, by rw [hv], by rw [← Dl.ints hd]; exact hp.sq, hl, fun m h1 h2 => c _ H1 _ e1 rfl (z m h1 h2)⟩
theorem ev_minL {k : Int → Prop} (hK : W.B.K = K) (h : EvK W te Γ fun as : List Int => 0 < as.length ∧ ∀ m, m ∈ as → (∀ y, y ∈ as → m ≤ y) → k m) : EvK W (tCB (rMin K) (tCons te tNil)) Γ k := by
  subst hK
  exact fun σ H Q E c => h σ H _ E fun v H1 as e1 ⟨p, vs, hv, hp, hd⟩ ⟨hl, z⟩ => ⟨p, as, by rw [hv], by rw [← Dl.ints hd]; exact hp.sq, hl, fun m h1 h2 => c _ H1 _ e1 rfl (z m h1 h2)⟩
/-- a list as a test -/
theorem et_truthL {α : Type} {rα : Rep α} {k : Bool → Prop} (hK : W.B.K = K) (h : EvK W te Γ fun as : List α => k (!as.isEmpty)) : EvT W (fun σ H Q => te σ H fun x H' => ∃ k, TruV K x H' k ∧ Q k H') Γ k := by
  subst hK
  refine fun σ H Q E c => h σ H _ E fun v H1 as e1 ⟨p, vs, hv, hp, hd⟩ z => ⟨!as.isEmpty, ?_, c H1 _ e1 z⟩
  subst hv
  refine .inl ⟨vs, hp.sq, ?_⟩
  cases hd <;> rfl

/-! ### class methods, properties, own makes -/
theorem ev_cmethZ {α : Type} {rα : Rep α} {k : α → Prop} (c : Cn) (hB : W.B = B) (hC : B.cl c = C) (hx : HX W Γ E x) (h : EvA W ta Γ fun ts => P (fun t => ∃ a : α, t = T a ∧ k a) x (T (Cv.mk c) :: ts)) : EvK W (tCMethZ C (spG B P) E ta) Γ k := by
  subst hB
  subst hC
  exact fun σ H Q G q => h σ H _ G fun vs H1 ts e1 d z => ⟨W, _, _, x, rfl, e1.ok, .cons (t := T (Cv.mk c)) rfl d, z, fun v H2 t e2 dt ⟨a, ea, qq⟩ => by
    subst ea
    exact q v H2 a (e1.trans e2) dt qq, hx σ H1 (G.ext e1)⟩
theorem ev_propZ {α β : Type} {rα : Rep α} {rβ : Rep β} {k : α → Prop} (hB : W.B = B)
    (h : EvK W te Γ fun s : β => OwnG β B C (P (fun t => ∃ a : α, t = T a ∧ k a) (fun _ => False) [T s])) : EvK W (tPropZ C (spG B P) te) Γ k := by
  subst hB
  refine fun σ H Q G c => h σ H _ G fun v H1 s e1 d ⟨cc, fl, iβ, hC, z⟩ => ?_
  subst hC
  obtain ⟨p, dp, fs, hv, _, hH, _⟩ := iβ.at_ d
  refine ⟨p, dp, fs, hv, hH, W, _, _, _, rfl, e1.ok, .cons (t := T s) (by rw [← hv]; exact d) .nil, z, fun v H3 t e3 dt ⟨a, ea, q⟩ => by
    subst ea
    exact c v H3 a (e1.trans e3) dt q, fun n d2 H2 _ _ q => q.elim⟩
theorem ev_makeV {α : Type} {rα : Rep α} {c : Cn} {sp : Sp} {i : Nat} {k : α → Prop} (hB : W.B = B) (hC : B.cl c = C) (hi : Γ[i]? = some (some (T (Cv.mk c)))) (h : EvK W (tMakeZ C sp E ta) Γ k) : EvK W (tMakeV i C sp E ta) Γ k := by
  subst hB
  subst hC
  exact fun σ H Q G q => by
    obtain ⟨v, h1, h2⟩ := G.at_ i _ hi
    exact ⟨v, h1, h2, h σ H Q G q⟩
/-- a star call's items from a list, a tuple -/
theorem el_starL {α : Type} {rα : Rep α} {k : List α → Prop} (hK : W.B.K = K) (h : EvK W te Γ fun as : List α => k as) : EvL W (tStarZ K te) Γ k := by
  subst hK
  exact fun σ H Q E c => h σ H _ E fun v H1 as e1 ⟨p, vs, hv, hp, hd⟩ z => ⟨p, vs, hv, .inr hp.sq, c vs H1 as e1 hd z⟩
theorem el_starT {α : Type} {rα : Rep α} {k : List α → Prop} (hK : W.B.K = K) (h : EvK W te Γ fun as : Tl α => k as.xs) : EvL W (tStarZ K te) Γ k := by
  subst hK
  exact fun σ H Q E c => h σ H _ E fun v H1 as e1 ⟨p, vs, hv, hp, hd⟩ z => ⟨p, vs, hv, .inl hp.sq, c vs H1 as.xs e1 hd z⟩

/-! ### sets of levels -/
end
structure Lvs where
  ps : List Stc
  deriving DecidableEq
instance : Rep Lvs :=
  ⟨fun W H v l => ∃ a dx y, v = .ref a ∧ ¬ W.mu a ∧ H a = some (.ins (W.B.cl .Levels) dx [("_pieces", y)]) ∧ den W H y l.ps,
   fun e ⟨a, dx, y, hv, m, h, d⟩ => ⟨a, dx, y, hv, m, e _ _ m h, Rep.mono e d⟩,
   fun D n ⟨a, dx, y, hv, m, h, d⟩ => ⟨a, dx, y, hv, mu_grow n m h, h, Rep.grow D n d⟩,
   fun D ⟨a, dx, y, hv, m, h, d⟩ => ⟨a, dx, y, hv, fun z => m (.inl z), h, Rep.shrink D d⟩⟩
instance : Ins Lvs .Levels ["_pieces"] := ⟨fun ⟨a, dx, y, hv, m, h, _⟩ => ⟨a, dx, _, hv, m, h, rfl⟩⟩
instance : Pln Lvs := ⟨fun ⟨a, dx, y, hv, _⟩ => .inl ⟨a, hv⟩⟩
structure LvsT (B : Bs) : Prop where
  cl : Cls B.K (B.cl .Levels)
  np : NoAttr B.K (B.cl .Levels) "_pieces"
theorem lvs_of {W : Wd} {B : Bs} (h : W.B = B) (s : LvsT B) : LvsT W.B := h ▸ s
section
variable {W : Wd} {Γ : Gam} {ta : TA} {te tb to tl : TE} {tt : TT} {g : TG} {B : Bs} {P : PT} {E : L2.St → XK} {x : Xn → Prop} {C : Addr} {K : PySem.W.Frag}
theorem ev_pieces {k : List Stc → Prop} (hK : W.B.K = K) (hL : LvsT W.B) (h : EvK W te Γ fun s : Lvs => k s.ps) : EvK W (tFld K te "_pieces") Γ k := by
  subst hK
  refine fun σ H Q E c => h σ H _ E fun v H1 s e1 ⟨a, dx, y, hv, m, hH, d⟩ z => ?_
  exact ⟨a, _, dx, _, y, hv, hH, hL.cl, hL.np, by simp [List.lookup], c y H1 _ e1 d z⟩
/-- the fewest pieces: pairs in order are joined -/
def joinStep (acc : List (Int × Int)) (p : Int × Int) : List (Int × Int) := match acc.getLast? with
  | some q => if p.1 ≤ q.2 + 1 then acc.dropLast ++ [(q.1, max q.2 p.2)] else acc ++ [p]
  | none => [p]
def joinF (ps : List (Int × Int)) : List (Int × Int) := ps.foldl joinStep []
def mkStc (p : Int × Int) : Stc := ⟨p.1, p.2⟩
def stcE (s : Stc) : Int × Int := (s.lo, s.hi)
def unionF (ps : List (Int × Int)) : List (Int × Int) := joinF (sortP ps)
def lvF (ss : List Stc) : List Stc := (unionF (ss.map stcE)).map mkStc
/-- __init__ of Levels, its stretches a tuple -/
def spLI (B : Bs) : Sp := fun vs H Q E => ∃ (W : Wd) (p dx q : Addr) (ss : List Stc), vs = [.ref p, .ref q] ∧ H p = some (.ins (B.cl .Levels) dx []) ∧ W.B = B ∧ W.ok H ∧ ¬ W.mu p ∧ den W H (.ref q) (Tl.mk ss) ∧ ss.length ≤ 1000 ∧ (∀ s ∈ ss, s.lo ≤ s.hi) ∧
  ∀ H' y, Ext W H H' → den W H' y (lvF ss) → Q .non (upd H' p (.ins (B.cl .Levels) dx [("_pieces", y)]))
/-- .. as a call sees it -/
def spLS (B : Bs) : Sp := fun vs H Q E => ∃ ws rest, vs = ws ++ rest ∧ ws.length = 1 ∧ rest.length ≤ sizeLine ∧ ∀ p, H p = Option.none → spLI B (ws ++ [V.ref p]) (upd H p (.tup rest)) Q E
theorem ev_levels {k : Lvs → Prop} (hB : W.B = B) (hC : B.cl .Levels = C) (h : EvL W ta Γ fun ss : List Stc => (ss.length ≤ 1000 ∧ ∀ s ∈ ss, s.lo ≤ s.hi) ∧ k ⟨lvF ss⟩) : EvK W (tMakeZ C (spLS B) E ta) Γ k := by
  subst hB
  subst hC
  refine fun σ H Q G c => h σ H _ G fun vs H1 ss e1 d ⟨⟨hl, ho⟩, z⟩ xx dx nx ndx nex => ?_
  have o := e1.ok
  have m1 := fresh_mu o ndx
  have m2 := fresh_mu o nx
  have ok3 : W.ok (upd (upd H1 dx (.own xx)) xx (.ins (W.B.cl .Levels) dx [])) := W.st _ _ _ (W.st _ _ _ o m1) m2
  have e3 : Ext W H1 (upd (upd H1 dx (.own xx)) xx (.ins (W.B.cl .Levels) dx [])) := ⟨fun a u _ q => by rw [upd_ne (ne_of_none q nx), upd_ne (ne_of_none q ndx)]; exact q, ok3⟩
  refine ⟨[V.ref xx], vs, rfl, rfl, Nat.le_trans (by rw [d.length]; omega : vs.length ≤ 1000) (by decide), fun p hp => ?_⟩
  have e4 := Ext.new (o := .tup vs) ok3 hp
  have hpx : xx ≠ p := fun e => by rw [← e, upd_same] at hp; cases hp
  refine ⟨W, xx, dx, p, ss, rfl, by rw [upd_ne hpx, upd_same], rfl, e4.ok, m2, ⟨p, vs, rfl, Tq.new (fresh_mu ok3 hp) upd_same, d.imp fun _ _ y => Rep.mono (e3.trans e4).keep y⟩, hl, ho, fun H' y e5 dy => ⟨rfl, ?_⟩⟩
  have e6 := (e3.trans e4).trans e5
  have nxH' : ∀ a u, H1 a = some u → a ≠ xx := fun a u q => ne_of_none q nx
  have k7 : Kp W.toWc H1 (upd H' xx (.ins (W.B.cl .Levels) dx [("_pieces", y)])) := fun a u m q => by rw [upd_ne (nxH' a u q)]; exact e6.keep a u m q
  have hx' : H' xx = some (.ins (W.B.cl .Levels) dx []) := (e4.trans e5).keep xx _ m2 upd_same
  refine c (.ref xx) _ ⟨lvF ss⟩ (e1.trans ⟨k7, W.st _ _ _ e6.ok m2⟩) ⟨xx, dx, y, rfl, m2, upd_same, ?_⟩ z
  -- the pieces do not lean on the new object itself
  obtain ⟨p2, ws, hv, hq, hw⟩ := dy
  have ne2 : p2 ≠ xx := fun e => by have := hq.2; rw [e, hx'] at this; cases this
  refine ⟨p2, ws, hv, ⟨hq.1, by rw [upd_ne ne2]; exact hq.2⟩, hw.imp fun v s ⟨a, da, hv2, ma, ha⟩ => ⟨a, da, hv2, ma, ?_⟩⟩
  have ne3 : a ≠ xx := fun e => by
    rw [e, hx'] at ha
    injection ha with ha
    injection ha with _ _ ha
    cases ha
  rw [upd_ne ne3]
  exact ha
end
end G
set_option Elab.async false
set_option linter.all false
set_option maxRecDepth 100000
set_option maxHeartbeats 2000000
namespace G
open PySem PySem.Spec PyProof.Rows L2 StX

/-! ### len, repr, str of own objects -/
section
variable {X : Cx} {CX : CXT} {k n : Nat} {f g C p : Addr} {sp : Sp} {E : XK}
theorem run_fnR2 {pins : List (Addr × Obj)} {σ : L2.St} {H : Hp} {s : Shared} {Q : VK} {us : List Value} {vs : List V} (F : FnR X.prog X.w X.K X.mg X.base CX n f sp) (hr : Room (n + 2) X.A) (hx : Passes CX X E) (I : L2.Inv X pins σ H s) (r : Vals vs us) (q : sp vs H Q E) :
    wpAny (model X.prog X.w) X.A.in1.in1 (call (.ref f) us) (EP X pins σ Q) X.xe s := by
  refine wpAny_call (codeAny_mono (F X.A.in1.in1 X.stack s H us vs Q E hr.in1.in1 I.env0.in1.in1 r q) fun r s' h => ?_)
  cases r with
  | error e => exact hx pins _ H s e s' I h
  | ok fl =>
    cases fl with
    | ret u =>
      obtain ⟨v, H2, os2, bare2, un2, hok2, rv, qv⟩ := h
      exact ⟨v, H2, I.call' os2 un2 hok2 bare2 (fun b hb => (nomatch hb)), rv, qv⟩
    | next => exact False.elim h
    | brk => exact False.elim h
    | cont => exact False.elim h
def rStrO (C : Addr) (sp : Sp) (E : XK) : List V → Hp → VK → Prop := fun xs H Q => ∃ a dx fs, xs = [.ref a] ∧ H a = some (.ins C dx fs) ∧ sp [.ref a] H (fun v H' => ∃ y, v = .str y ∧ Q (.str y) H') E
def rLenO (C : Addr) (sp : Sp) (E : XK) : List V → Hp → VK → Prop := fun xs H Q => ∃ a dx fs, xs = [.ref a] ∧ H a = some (.ins C dx fs) ∧ sp [.ref a] H (fun v H' => ∃ i : Int, v = .int i ∧ (0 ≤ i ∧ i < 2 ^ 63) ∧ Q (.int i) H') E
/-- what the text says of a special method of the class -/
structure SpT (K : PySem.W.Frag) (C : Addr) (m : Str) (f : Addr) : Prop where
  at_ : PySem.W.findIn K (.ref C) m = some (some (.ref f))
  fn : PySem.W.isFn K (.ref f) = true
theorem call_lenO (T : SpT X.K C "__len__" f) (F : FnR X.prog X.w X.K X.mg X.base CX n f sp) (hr : Room (n + 1) X.A) (hx : Passes CX X E) : CallR X (.builtin "len") (rLenO C sp E) := by
  intro pins s σ H xs us Q I r h
  obtain ⟨a, dx, fs, rfl, ea, q⟩ := h
  obtain ⟨u, rfl, rx⟩ := vals1 r
  obtain rfl : u = Value.ref a := rx
  obtain ⟨od, J⟩ := inst_of I ea
  obtain ⟨m', hF⟩ := I.fr
  refine PySem.W.len_K hF I.ok.mod.kin J T.at_ T.fn (thn (run_fnR1 (us := [.ref a]) (vs := [.ref a]) F hr hx I (.cons rfl .nil) q) fun w s' ⟨v, H', I', rv, i, ev, hb, q2⟩ => ?_)
  subst ev
  obtain ⟨t, rfl⟩ := rv
  exact ⟨hb, .int i, H', I'.tok _, ⟨_, rfl⟩, q2⟩
theorem call_reprO (T : SpT X.K C "__repr__" f) (F : FnR X.prog X.w X.K X.mg X.base CX n f sp) (hr : Room (n + 1) X.A) (hx : Passes CX X E) : CallR X (.builtin "repr") (rStrO C sp E) := by
  intro pins s σ H xs us Q I r h
  obtain ⟨a, dx, fs, rfl, ea, q⟩ := h
  obtain ⟨u, rfl, rx⟩ := vals1 r
  obtain rfl : u = Value.ref a := rx
  obtain ⟨od, J⟩ := inst_of I ea
  obtain ⟨m', hF⟩ := I.fr
  have hu := hr.in1.units
  refine PySem.W.repr_K (by omega) hF I.ok.mod.kin J T.at_ T.fn (thn (run_fnR1 (us := [.ref a]) (vs := [.ref a]) F hr hx I (.cons rfl .nil) q) fun w s' ⟨v, H', I', rv, y, ev, q2⟩ => ?_)
  subst ev
  obtain ⟨t, rfl⟩ := rv
  exact ⟨.str y, H', I', ⟨_, rfl⟩, q2⟩
theorem call_strO (T : SpT X.K C "__str__" f) (F : FnR X.prog X.w X.K X.mg X.base CX n f sp) (hr : Room (n + 2) X.A) (hx : Passes CX X E) : CallR X (.type "str") (rStrO C sp E) := by
  intro pins s σ H xs us Q I r h
  obtain ⟨a, dx, fs, rfl, ea, q⟩ := h
  obtain ⟨u, rfl, rx⟩ := vals1 r
  obtain rfl : u = Value.ref a := rx
  obtain ⟨od, J⟩ := inst_of I ea
  have hu := hr.in1.in1.units
  refine PySem.W.kso_call (by omega) I.kIn J T.at_ T.fn (thn (run_fnR2 (us := [.ref a]) (vs := [.ref a]) F hr hx I (.cons rfl .nil) q) fun w s' ⟨v, H', I', rv, y, ev, q2⟩ => ?_)
  subst ev
  obtain ⟨t, rfl⟩ := rv
  exact ⟨.str y, H', I', ⟨_, rfl⟩, q2⟩
/-- a def with a star parameter -/
def DefS (K : PySem.W.Frag) (name qual : Str) (st : Stmt) (ps : List Str) (pv : Str) (f : Addr) : Prop := ∃ fd, Fun K name qual st f fd ∧ ∀ us rest : List Value, us.length = ps.length → bindArgs fd ⟨us ++ rest, []⟩ = (newTuple rest >>= fun t => pure (ps.zip us ++ [(pv, t)]))
theorem defS1 {K : PySem.W.Frag} {name qual p1 pv : Str} {st : Stmt} {f : Addr} {fd : FuncData} (F : Fun K name qual st f fd) (h0 : ∀ a, bindArgs fd ⟨[a], []⟩ = (newTuple [] >>= fun t => pure [(p1, a), (pv, t)])) (h1 : ∀ a r rs, bindArgs fd ⟨a :: r :: rs, []⟩ = (newTuple (r :: rs) >>= fun t => pure [(p1, a), (pv, t)])) :
    DefS K name qual st [p1] pv f := ⟨fd, F, bind_star1 (B := fun us => bindArgs fd ⟨us, []⟩) h0 h1⟩
theorem fnR_ofS {P : Program} {w : World} {K : PySem.W.Frag} {mg : Str → Option Value} {base : Heap} {st : Stmt} {N ps : List Str} {pv : Str} {k : Nat} {sp : Sp} {f : Addr} {name qual : Str} (hCX : CXUp CX) (D : DefS K name qual st ps pv f) (S : FnScope N (ps ++ [pv]) (defScope st))
    (hbody : ∀ (cdv : Value) (A : Around) (outer : List Env) (s : Shared) (H : Hp) (vs : List V) (Q : VK) (E : XK), Room k (A.deeper (envOfC qual (defScope st) s.heap.objs.size f cdv)) → sp vs H Q E →
      ∃ t, PSs (cxOf CX P w K mg base N qual (defScope st) f cdv A outer s H E) (defBody st) t ∧ t { nx := fun _ H' => Q .non H', rt := Q } (L2.start N vs) H) :
    FnR P w K mg base CX (k + 1) f (fun vs H Q E => ∃ ws rest, vs = ws ++ rest ∧ ws.length = ps.length ∧ rest.length ≤ sizeLine ∧ ∀ p, H p = Option.none → sp (ws ++ [V.ref p]) (upd H p (.tup rest)) Q E) := by
  obtain ⟨fd, F, hb⟩ := D
  obtain ⟨oc, od, kV, doc, pm, an, cdv, ct, osl, rfl, l, c⟩ := F.ex
  exact fn_star l c S hCX hb (fun A outer s H vs Q E hr h => hbody cdv A outer s H vs Q E hr h)
end
section
variable {W : Wd} {Γ : Gam} {ta : TA} {te tb to tl : TE} {B : Bs} {P : PT} {E : XK} {x : Xn → Prop} {C C2 : Addr} {K : PySem.W.Frag}
theorem ev_strO {β : Type} {rβ : Rep β} {k : Str → Prop} (hB : W.B = B) (h : EvK W te Γ fun s : β => OwnG β B C (P (fun t => ∃ y : Str, t = T y ∧ k y) (fun _ => False) [T s])) : EvK W (tCB (rStrO C (spG B P) E) (tCons te tNil)) Γ k := by
  subst hB
  refine fun σ H Q G c => h σ H _ G fun v H1 s e1 d ⟨cc, fl, iβ, hC, z⟩ => ?_
  subst hC
  obtain ⟨p, dp, fs, hv, _, hH, _⟩ := iβ.at_ d
  exact ⟨p, dp, fs, by rw [hv], hH, W, _, _, _, rfl, e1.ok, .cons (t := T s) (by rw [← hv]; exact d) .nil, z, fun v H3 t e3 dt ⟨a, ea, q⟩ => by
    subst ea
    exact ⟨a, dt, c _ H3 a (e1.trans e3) rfl q⟩, fun n d2 H2 _ _ q => q.elim⟩
theorem ev_lenO {β : Type} {rβ : Rep β} {k : Int → Prop} (hB : W.B = B) (h : EvK W te Γ fun s : β => OwnG β B C (P (fun t => ∃ y : Int, t = T y ∧ (0 ≤ y ∧ y < 2 ^ 63) ∧ k y) (fun _ => False) [T s])) : EvK W (tCB (rLenO C (spG B P) E) (tCons te tNil)) Γ k := by
  subst hB
  refine fun σ H Q G c => h σ H _ G fun v H1 s e1 d ⟨cc, fl, iβ, hC, z⟩ => ?_
  subst hC
  obtain ⟨p, dp, fs, hv, _, hH, _⟩ := iβ.at_ d
  exact ⟨p, dp, fs, by rw [hv], hH, W, _, _, _, rfl, e1.ok, .cons (t := T s) (by rw [← hv]; exact d) .nil, z, fun v H3 t e3 dt ⟨a, ea, hb, q⟩ => by
    subst ea
    exact ⟨a, dt, hb, c _ H3 a (e1.trans e3) rfl q⟩, fun n d2 H2 _ _ q => q.elim⟩
/-- texts -/
theorem ev_addS {k : Str → Prop} (h : EvK W te Γ fun a : Str => EvK W tb Γ fun b : Str => a.length + b.length ≤ 1000000 ∧ k (a ++ b)) : EvK W (tOp (fun x y H Q => ∃ i j, x = .str i ∧ y = .str j ∧ i.length + j.length ≤ sizeLine ∧ Q (.str (i ++ j)) H) te tb) Γ k :=
  ev_two (h.imp fun a ha => ha.imp fun b ⟨hl, z⟩ x y H Q o dx dy c => ⟨a, b, dx, dy, Nat.le_trans hl (by decide), c _ H _ (Ext.refl o) rfl z⟩)
theorem ev_strI {k : Str → Prop} (h : EvK W te Γ fun i : Int => Small i ∧ k (toString i)) : EvK W (tCB (fun xs H Q => ∃ i, xs = [.int i] ∧ i.natAbs.log2 < 1920 ∧ Q (.str (toString i)) H) (tCons te tNil)) Γ k := fun σ H Q G c =>
  h σ H _ G fun v H1 i e1 d ⟨s, z⟩ => ⟨i, congrArg (fun x => [x]) d, s, c _ H1 _ e1 rfl z⟩
/-- data whose kind is known, and that it is no instance of the class at C -/
def NoI (K : PySem.W.Frag) (B : Bs) (C : Addr) (β : Type) [Rep β] : Prop := ∀ (W : Wc) (H : Hp) (v : V) (y : β), W.B = B → den W H v y → ∃ ty, TyX K H v ty ∧ PySem.W.kitOne K ty (.ref C) = some false
theorem ev_isiN {β : Type} {rβ : Rep β} {k : Bool → Prop} (hK : W.B.K = K) (hB : W.B = B) (n : NoI K B C2 β) (h : EvK W te Γ fun _ : β => k false) : EvK W (tCB (rIsi K) (tCons te (tCons (tC (.ref C2)) tNil))) Γ k := by
  subst hK
  refine fun σ H Q E q => h σ H _ E fun v H1 a e1 d z => ?_
  obtain ⟨ty, h1, h2⟩ := n _ _ _ _ hB d
  exact ⟨v, .ref C2, _, _, false, rfl, .own C2, h1, h2, q _ H1 false e1 rfl z⟩
theorem kit_bo {n : String} {b : Bool} (h2 : PySem.W.isClsIn K C = true) (h3 : PySem.W.typeIn K (.ref C) = some (.type "type")) (h4 : PySem.W.subIn K (.type n) (.ref C) = some b) : PySem.W.kitOne K (.type n) (.ref C) = some b := by
  have e2 : ((PySem.W.clsIn K C).isSome && PySem.W.typeIn K (.ref C) == some (.type "type")) = true := by
    have h2' : (PySem.W.clsIn K C).isSome = true := h2
    rw [h2', h3] <;> rfl
  have hne : (Value.type n == Value.ref C) = false := by
    cases q : (Value.type n == Value.ref C) with
    | false => rfl
    | true => exact absurd (eq_of_beq q) (by intro z; cases z)
  show (if (Value.type n == Value.ref C) = true then some true else (if ((PySem.W.clsIn K C).isSome && PySem.W.typeIn K (.ref C) == some (.type "type")) = true then PySem.W.subIn K (.type n) (.ref C) else none)) = some b
  rw [hne, if_neg Bool.false_ne_true, if_pos e2]
  exact h4
theorem noI_tup {α β : Type} [Rep α] [Rep β] (hBK : B.K = K) (h : PySem.W.kitOne K (.type "tuple") (.ref C) = some false) : NoI K B C (α × β) := fun W H v y hB ⟨p, a, b, hv, s, _⟩ => by
  subst hv
  exact ⟨_, .base (.tup s.2), h⟩
theorem noI_list {α : Type} [Rep α] (hBK : B.K = K) (h : PySem.W.kitOne K (.type "list") (.ref C) = some false) : NoI K B C (List α) := fun W H v y hB ⟨p, a, hv, s, _⟩ => by
  subst hv
  exact ⟨_, .base (.lst s.2), h⟩
theorem noI_unit (h : PySem.W.kitOne K (.type "NoneType") (.ref C) = some false) : NoI K B C Unit := fun W H v y hB d => by
  cases d
  exact ⟨_, .base .non, h⟩
theorem noI_ins {β : Type} [Rep β] {c : Cn} {fl : List Str} [i : Ins β c fl] {D : Addr} (hD : B.cl c = D) (T : IsT K D) (h : PySem.W.kitOne K (.ref D) (.ref C) = some false) : NoI K B C β := fun W H v y hB d => by
  obtain ⟨p, dp, fs, hv, _, hH, _⟩ := i.at_ d
  subst hv
  rw [hB, hD] at hH
  exact ⟨_, .base (.ins hH T.c T.f T.s T.t T.m), h⟩
instance : HasTy Lvs fun B => .ref (B.cl .Levels) := ⟨fun ⟨a, dx, y, hv, m, h, _⟩ => by subst hv; exact .ins h⟩
end

/-! ### texts -/
theorem strOk_of (s : String) : PyData.strOk (Str.ofString s) = true := by
  rw [Str.ofString_eq_toList]
  unfold PyData.strOk
  rw [Array.all_eq_true']
  intro x hx
  simp only [List.mem_toArray, List.mem_map] at hx
  obtain ⟨c, _, rfl⟩ := hx
  have := c.valid
  rcases this with h | ⟨_, h⟩
  · exact decide_eq_true (Nat.lt_trans h (by decide))
  · exact decide_eq_true h
theorem str_app_cps (a b : Str) : (a ++ b).cps = a.cps ++ b.cps := rfl
theorem strOk_app {a b : Str} (h1 : PyData.strOk a = true) (h2 : PyData.strOk b = true) : PyData.strOk (a ++ b) = true := by
  unfold PyData.strOk at *
  rw [str_app_cps, Array.all_append, h1, h2]; rfl
theorem strOk_emp : PyData.strOk Str.empty = true := by simp [PyData.strOk, Str.empty]
theorem emp_app (x : Str) : Str.empty ++ x = x := by
  cases x
  show Str.mk (#[] ++ _) = _
  rw [Array.empty_append]
theorem emp_len : Str.empty.length = 0 := rfl
section
variable {W : Wd} {Γ : Gam} {ta : TA} {te tb to tl : TE} {K : PySem.W.Frag}
theorem ev_sortedP {k : List (Int × Int) → Prop} (hK : W.B.K = K) (h : EvK W te Γ fun as : List (Int × Int) => k (sortP as)) : EvK W (tCB (rSortedPO K) (tCons te tNil)) Γ k := (evF_sortedP hK h).k
end

/-! ### the last item -/
theorem ixN_last {n : Nat} (h : 0 < n) : ixN n (-1) = some (n - 1) := by
  unfold ixN
  rw [if_neg (by omega), if_pos (by omega)]
  congr 1
  omega
theorem atI_last1 {α : Type} {xs : List α} {q : α} (h : xs.getLast? = some q) : atI xs (-1) = some q := by
  have hl : 0 < xs.length := by
    cases xs with
    | nil => cases h
    | cons x r => exact Nat.succ_pos _
  unfold atI
  rw [ixN_last hl, Option.bind_some, ← h, List.getLast?_eq_getElem?]
theorem set_last {α : Type} {xs : List α} {a : α} (h : 0 < xs.length) : xs.set (xs.length - 1) a = xs.dropLast ++ [a] := by
  have e : xs = xs.dropLast ++ [xs.getLast (by intro e; rw [e] at h; exact Nat.lt_irrefl 0 h)] := (List.dropLast_concat_getLast _).symm
  have hl : xs.dropLast.length = xs.length - 1 := List.length_dropLast
  conv => lhs; rw [e]
  rw [List.length_append, List.length_singleton, Nat.add_sub_cancel, List.set_append_right _ _ (Nat.le_refl _), Nat.sub_self]
  rfl
theorem joinF_more {ps : List (Int × Int)} {i : Nat} {a : Int × Int} (h : ps[i]? = some a) : joinF (ps.take (i + 1)) = joinStep (joinF (ps.take i)) a := by
  unfold joinF
  rw [List.take_succ, h, List.foldl_append]
  rfl
theorem joinF_concat (ps : List (Int × Int)) (a : Int × Int) : joinF (ps ++ [a]) = joinStep (joinF ps) a := by
  unfold joinF
  rw [List.foldl_append]
  rfl
theorem joinStep_len (acc : List (Int × Int)) (a : Int × Int) : (joinStep acc a).length ≤ acc.length + 1 := by
  unfold joinStep
  split
  · split
    · rw [List.length_append, List.length_dropLast]; simp
    · rw [List.length_append]; simp
  · simp
theorem foldl_len (ps acc : List (Int × Int)) : (ps.foldl joinStep acc).length ≤ acc.length + ps.length := by
  induction ps generalizing acc with
  | nil => simp
  | cons p r ih =>
    have h1 := ih (joinStep acc p)
    have h2 := joinStep_len acc p
    simp only [List.foldl_cons, List.length_cons]
    omega
theorem joinF_len (ps : List (Int × Int)) : (joinF ps).length ≤ ps.length := by
  have := foldl_len ps []
  simpa [joinF] using this
/-- what holds of all pairs holds of the joined ones: low ends not above high ends -/
theorem joinStep_ok {acc : List (Int × Int)} {p : Int × Int} (h : ∀ q ∈ acc, q.1 ≤ q.2) (hp : p.1 ≤ p.2) : ∀ q ∈ joinStep acc p, q.1 ≤ q.2 := by
  intro q hq
  unfold joinStep at hq
  split at hq
  · rename_i l hl
    have hm : l ∈ acc := List.mem_of_getLast? hl
    split at hq
    · rcases List.mem_append.mp hq with hq | hq
      · exact h q ((List.dropLast_sublist acc).subset hq)
      · rw [List.mem_singleton.mp hq]
        have := h l hm
        show l.1 ≤ max l.2 p.2
        omega
    · rcases List.mem_append.mp hq with hq | hq
      · exact h q hq
      · rw [List.mem_singleton.mp hq]; exact hp
  · rw [List.mem_singleton.mp hq]; exact hp
theorem joinF_ok {ps : List (Int × Int)} (h : ∀ q ∈ ps, q.1 ≤ q.2) : ∀ q ∈ joinF ps, q.1 ≤ q.2 := by
  have key : ∀ (ps acc : List (Int × Int)), (∀ q ∈ ps, q.1 ≤ q.2) → (∀ q ∈ acc, q.1 ≤ q.2) → ∀ q ∈ ps.foldl joinStep acc, q.1 ≤ q.2 := by
    intro ps
    induction ps with
    | nil => intro acc _ h2; exact h2
    | cons p r ih => intro acc h1 h2; exact ih _ (fun q hq => h1 q (List.mem_cons_of_mem _ hq)) (joinStep_ok h2 (h1 p List.mem_cons_self))
  exact key ps [] h (fun _ h => nomatch h)
theorem unionF_ok {ps : List (Int × Int)} (h : ∀ q ∈ ps, q.1 ≤ q.2) : ∀ q ∈ unionF ps, q.1 ≤ q.2 := joinF_ok fun q hq => h q (sortP_mem.mp hq)
theorem unionF_len (ps : List (Int × Int)) : (unionF ps).length ≤ ps.length := by
  have := joinF_len (sortP ps)
  rw [sortP_length] at this
  exact this

theorem mid {P Q : Prop} (h : P → Q) (p : P) : Q := h p
/-- a chain whose last part is plain -/
def ChG (W : Wd) (te : TE) (Γ : Gam) (k : Int → Prop) : Prop := ∃ l : Int, EvK W te Γ (fun a => a = l) ∧ k l
theorem chg_in {W : Wd} {te : TE} {Γ : Gam} {k : Int → Prop} {l : Int} (h1 : EvK W te Γ fun a => a = l) (h : k l) : ChG W te Γ k := ⟨l, h1, h⟩
theorem ev_chainP {W : Wd} {ta tb tc : TE} {Γ : Gam} {f g : Int → Int → Bool} {k : Bool → Prop} (h : EvK W ta Γ fun i : Int => EvK W tb Γ fun j : Int => ChG W tc Γ fun l => k (f i j && g j l)) :
    EvK W (tChain (rI0 fun i j => .bl (f i j)) (rI0 fun i j => .bl (g i j)) ta tb tc) Γ k :=
  ev_chain (h.imp fun i hi => hi.imp fun j ⟨l, h1, h2⟩ => ⟨fun e => h1.imp fun a ea => by rw [ea]; rw [e, Bool.true_and] at h2; exact h2, fun e => by rw [e, Bool.false_and] at h2; exact h2⟩)
/-! ### which kind of goal -/
section
variable {α : Type} {r : Rep α} {W : Wd} {Γ : Gam} {ta : TA} {te tb to : TE} {tt : TT} {ts : TS} {k : α → Prop} {kb : Bool → Prop} {kt : List Ty → Prop} {kl : List α → Prop} {R : Po} {K : PySem.W.Frag}
theorem gd_s (h : Sx W ts Γ R) : Sx W ts Γ R := h
theorem gd_set {i : Nat} {v : Option Ty} (h : Sx W ts (Γ.set i v) R) : Sx W ts (Γ.set i v) R := h
theorem gd_k (h : EvK W te Γ k) : EvK W te Γ k := h
theorem gd_var {i : Nat} (h : EvK W (tVar i) Γ k) : EvK W (tVar i) Γ k := h
theorem gd_c {v : V} (h : EvK W (tC v) Γ k) : EvK W (tC v) Γ k := h
theorem gd_op {q : R2} (h : EvK W (tOp q te tb) Γ k) : EvK W (tOp q te tb) Γ k := h
theorem gd_un {q : V → Hp → VK → Prop} (h : EvK W (tUn q te) Γ k) : EvK W (tUn q te) Γ k := h
theorem gd_cb {q : List V → Hp → VK → Prop} (h : EvK W (tCB q ta) Γ k) : EvK W (tCB q ta) Γ k := h
theorem gd_fld {f : Str} (h : EvK W (tFld K te f) Γ k) : EvK W (tFld K te f) Γ k := h
theorem gd_call {sp : Sp} {E : XK} (h : EvK W (tCallR sp E ta) Γ k) : EvK W (tCallR sp E ta) Γ k := h
theorem gd_tup (h : EvK W (tTup ta) Γ k) : EvK W (tTup ta) Γ k := h
theorem gd_lst (h : EvK W (tLst ta) Γ k) : EvK W (tLst ta) Γ k := h
theorem gd_t (h : EvT W tt Γ kb) : EvT W tt Γ kb := h
theorem gd_a (h : EvA W ta Γ kt) : EvA W ta Γ kt := h
theorem gd_l (h : EvL W ta Γ kl) : EvL W ta Γ kl := h
theorem gd_j {tj : List TE} {acc : Str} {ks : Str → Prop} (h : EvJ W tj Γ acc ks) : EvJ W tj Γ acc ks := h
end
end G
set_option Elab.async false
set_option linter.all false
namespace G
open PySem
/-! ### mathematics of joined pairs -/
def inP' (x : Int) (p : Int × Int) : Prop := p.1 ≤ x ∧ x ≤ p.2
def memP (x : Int) (ps : List (Int × Int)) : Prop := ∃ p ∈ ps, inP' x p
/-- ascending pieces with gaps between -/
def NF (ps : List (Int × Int)) : Prop := (∀ q ∈ ps, q.1 ≤ q.2) ∧ ps.Pairwise fun a b => a.2 + 1 < b.1
theorem nf_nil : NF [] := ⟨fun _ h => (nomatch h), List.Pairwise.nil⟩
/-- the invariant of joining: acc is in normal form, its last low end is not above what comes -/
theorem join_inv : ∀ (ps acc : List (Int × Int)), (∀ q ∈ ps, q.1 ≤ q.2) → ps.Pairwise (fun a b => lexLe a b = true) → NF acc → (∀ q ∈ acc, ∀ p ∈ ps, q.1 ≤ p.1) →
    NF (ps.foldl joinStep acc) ∧ ∀ x, memP x (ps.foldl joinStep acc) ↔ memP x acc ∨ memP x ps
  | [], acc, _, _, h, _ => ⟨h, fun x => ⟨.inl, fun h => h.elim id fun ⟨p, hp, _⟩ => nomatch hp⟩⟩
  | p :: r, acc, ho, hs, hn, hl => by
    have hp : p.1 ≤ p.2 := ho p List.mem_cons_self
    have hs' := List.pairwise_cons.mp hs
    have hstep : NF (joinStep acc p) ∧ (∀ q ∈ joinStep acc p, ∀ u ∈ r, q.1 ≤ u.1) ∧ ∀ x, memP x (joinStep acc p) ↔ memP x acc ∨ inP' x p := by
      have hpr : ∀ u ∈ r, p.1 ≤ u.1 := fun u hu => by
        have := lexLe_iff.mp (hs'.1 u hu)
        omega
      cases hlast : acc.getLast? with
      | none =>
        have e : acc = [] := List.getLast?_eq_none_iff.mp hlast
        subst e
        have ej : joinStep [] p = [p] := rfl
        rw [ej]
        refine ⟨⟨fun q hq => by rw [List.mem_singleton.mp hq]; exact hp, List.pairwise_singleton _ _⟩, fun q hq u hu => by rw [List.mem_singleton.mp hq]; exact hpr u hu, fun x => ⟨fun ⟨q, hq, hx⟩ => .inr (by rw [← List.mem_singleton.mp hq]; exact hx), fun h => h.elim (fun ⟨q, hq, _⟩ => nomatch hq) fun h => ⟨p, List.mem_singleton.mpr rfl, h⟩⟩⟩
      | some l =>
        have ea : acc = acc.dropLast ++ [l] := by
          obtain ⟨ys, e⟩ := List.getLast?_eq_some_iff.mp hlast
          rw [e, List.dropLast_concat]
        have hlm : l ∈ acc := List.mem_of_getLast? hlast
        have hlo := hn.1 l hlm
        have hlp := hl l hlm p List.mem_cons_self
        have hpw := hn.2
        rw [ea] at hpw
        obtain ⟨hw1, _, hw2⟩ := List.pairwise_append.mp hpw
        by_cases hc : p.1 ≤ l.2 + 1
        · have ej : joinStep acc p = acc.dropLast ++ [(l.1, max l.2 p.2)] := by
            unfold joinStep
            rw [hlast]
            dsimp only
            rw [if_pos hc]
          rw [ej]
          have hsub : ∀ q ∈ acc.dropLast, q ∈ acc := fun q hq => (List.dropLast_sublist acc).subset hq
          refine ⟨⟨fun q hq => ?_, List.pairwise_append.mpr ⟨hw1, List.pairwise_singleton _ _, fun a ha b hb => ?_⟩⟩, fun q hq u hu => ?_, fun x => ⟨fun ⟨q, hq, hx⟩ => ?_, fun h => ?_⟩⟩
          · rcases List.mem_append.mp hq with hq | hq
            · exact hn.1 q (hsub q hq)
            · rw [List.mem_singleton.mp hq]
              show l.1 ≤ max l.2 p.2
              omega
          · rw [List.mem_singleton.mp hb]
            exact hw2 a ha l (List.mem_singleton.mpr rfl)
          · rcases List.mem_append.mp hq with hq | hq
            · exact hl q (hsub q hq) u (List.mem_cons_of_mem _ hu)
            · rw [List.mem_singleton.mp hq]
              exact hl l hlm u (List.mem_cons_of_mem _ hu)
          · rcases List.mem_append.mp hq with hq | hq
            · exact .inl ⟨q, hsub q hq, hx⟩
            · rw [List.mem_singleton.mp hq] at hx
              have hx' : l.1 ≤ x ∧ x ≤ max l.2 p.2 := hx
              by_cases hxl : x ≤ l.2
              · exact .inl ⟨l, hlm, hx'.1, hxl⟩
              · exact .inr ⟨by omega, by omega⟩
          · rcases h with ⟨q, hq, hx⟩ | hx
            · rw [ea] at hq
              rcases List.mem_append.mp hq with hq | hq
              · exact ⟨q, List.mem_append_left _ hq, hx⟩
              · rw [List.mem_singleton.mp hq] at hx
                exact ⟨_, List.mem_append_right _ (List.mem_singleton.mpr rfl), hx.1, show x ≤ max l.2 p.2 by have := hx.2; omega⟩
            · exact ⟨_, List.mem_append_right _ (List.mem_singleton.mpr rfl), show l.1 ≤ x by have := hx.1; omega, show x ≤ max l.2 p.2 by have := hx.2; omega⟩
        · have ej : joinStep acc p = acc ++ [p] := by
            unfold joinStep
            rw [hlast]
            dsimp only
            rw [if_neg hc]
          rw [ej]
          refine ⟨⟨fun q hq => ?_, List.pairwise_append.mpr ⟨hn.2, List.pairwise_singleton _ _, fun a ha b hb => ?_⟩⟩, fun q hq u hu => ?_, fun x => ⟨fun ⟨q, hq, hx⟩ => ?_, fun h => ?_⟩⟩
          · rcases List.mem_append.mp hq with hq | hq
            · exact hn.1 q hq
            · rw [List.mem_singleton.mp hq]; exact hp
          · rw [List.mem_singleton.mp hb]
            rw [ea] at ha
            rcases List.mem_append.mp ha with ha | ha
            · have := hw2 a ha l (List.mem_singleton.mpr rfl)
              omega
            · rw [List.mem_singleton.mp ha]; omega
          · rcases List.mem_append.mp hq with hq | hq
            · exact hl q hq u (List.mem_cons_of_mem _ hu)
            · rw [List.mem_singleton.mp hq]; exact hpr u hu
          · rcases List.mem_append.mp hq with hq | hq
            · exact .inl ⟨q, hq, hx⟩
            · rw [List.mem_singleton.mp hq] at hx; exact .inr hx
          · rcases h with ⟨q, hq, hx⟩ | hx
            · exact ⟨q, List.mem_append_left _ hq, hx⟩
            · exact ⟨p, List.mem_append_right _ (List.mem_singleton.mpr rfl), hx⟩
    obtain ⟨h1, h2, h3⟩ := hstep
    obtain ⟨h4, h5⟩ := join_inv r (joinStep acc p) (fun q hq => ho q (List.mem_cons_of_mem _ hq)) hs'.2 h1 h2
    refine ⟨h4, fun x => ?_⟩
    show memP x (r.foldl joinStep (joinStep acc p)) ↔ _
    rw [h5, h3]
    constructor
    · rintro ((h | h) | ⟨q, hq, hx⟩)
      · exact .inl h
      · exact .inr ⟨p, List.mem_cons_self, h⟩
      · exact .inr ⟨q, List.mem_cons_of_mem _ hq, hx⟩
    · rintro (h | ⟨q, hq, hx⟩)
      · exact .inl (.inl h)
      · rcases List.mem_cons.mp hq with rfl | hq
        · exact .inl (.inr hx)
        · exact .inr ⟨q, hq, hx⟩
theorem unionF_nf {ps : List (Int × Int)} (h : ∀ q ∈ ps, q.1 ≤ q.2) : NF (unionF ps) :=
  (join_inv (sortP ps) [] (fun q hq => h q (sortP_mem.mp hq)) (sortP_sorted ps) nf_nil fun _ z => nomatch z).1
theorem unionF_mem {ps : List (Int × Int)} (h : ∀ q ∈ ps, q.1 ≤ q.2) (x : Int) : memP x (unionF ps) ↔ memP x ps := by
  have := (join_inv (sortP ps) [] (fun q hq => h q (sortP_mem.mp hq)) (sortP_sorted ps) nf_nil fun _ z => nomatch z).2 x
  refine this.trans ⟨fun z => z.elim (fun ⟨_, z, _⟩ => nomatch z) fun ⟨p, hp, hx⟩ => ⟨p, sortP_mem.mp hp, hx⟩, fun ⟨p, hp, hx⟩ => .inr ⟨p, sortP_mem.mpr hp, hx⟩⟩
/-- ends come from ends -/
theorem join_ends : ∀ (ps acc : List (Int × Int)) (L R : Int → Prop), (∀ q ∈ ps, L q.1 ∧ R q.2) → (∀ q ∈ acc, L q.1 ∧ R q.2) → ∀ q ∈ ps.foldl joinStep acc, L q.1 ∧ R q.2
  | [], acc, L, R, _, h => h
  | p :: r, acc, L, R, h1, h2 => by
    refine join_ends r (joinStep acc p) L R (fun q hq => h1 q (List.mem_cons_of_mem _ hq)) ?_
    have hp := h1 p List.mem_cons_self
    intro q hq
    unfold joinStep at hq
    split at hq
    · rename_i l hl
      have hm := h2 l (List.mem_of_getLast? hl)
      split at hq
      · rcases List.mem_append.mp hq with hq | hq
        · exact h2 q ((List.dropLast_sublist acc).subset hq)
        · rw [List.mem_singleton.mp hq]
          refine ⟨hm.1, ?_⟩
          show R (max l.2 p.2)
          rcases Int.le_total l.2 p.2 with z | z
          · rw [Int.max_eq_right z]; exact hp.2
          · rw [Int.max_eq_left z]; exact hm.2
      · rcases List.mem_append.mp hq with hq | hq
        · exact h2 q hq
        · rw [List.mem_singleton.mp hq]; exact hp
    · rw [List.mem_singleton.mp hq]; exact hp
theorem unionF_ends {ps : List (Int × Int)} {L R : Int → Prop} (h : ∀ q ∈ ps, L q.1 ∧ R q.2) : ∀ q ∈ unionF ps, L q.1 ∧ R q.2 :=
  join_ends (sortP ps) [] L R (fun q hq => h q (sortP_mem.mp hq)) fun _ z => nomatch z
/-- normal forms of one set of levels are one -/
theorem nf_cons {p : Int × Int} {r : List (Int × Int)} (h : NF (p :: r)) : p.1 ≤ p.2 ∧ NF r ∧ ∀ q ∈ r, p.2 + 1 < q.1 :=
  ⟨h.1 p List.mem_cons_self, ⟨fun q hq => h.1 q (List.mem_cons_of_mem _ hq), (List.pairwise_cons.mp h.2).2⟩, (List.pairwise_cons.mp h.2).1⟩
theorem nf_low {p : Int × Int} {r : List (Int × Int)} (h : NF (p :: r)) {x : Int} (hx : memP x (p :: r)) : p.1 ≤ x := by
  obtain ⟨h1, h2, h3⟩ := nf_cons h
  obtain ⟨q, hq, hx⟩ := hx
  rcases List.mem_cons.mp hq with rfl | hq
  · exact hx.1
  · have := h3 q hq
    have := hx.1
    omega
theorem nf_first {p : Int × Int} {r : List (Int × Int)} (h : NF (p :: r)) : memP p.1 (p :: r) := ⟨p, List.mem_cons_self, Int.le_refl _, (nf_cons h).1⟩
theorem nf_uniq : ∀ {as bs : List (Int × Int)}, NF as → NF bs → (∀ x, memP x as ↔ memP x bs) → as = bs
  | [], [], _, _, _ => rfl
  | [], q :: s, _, hb, h => by
    obtain ⟨p, hp, _⟩ := (h q.1).mpr (nf_first hb)
    exact nomatch hp
  | p :: r, [], ha, _, h => by
    obtain ⟨q, hq, _⟩ := (h p.1).mp (nf_first ha)
    exact nomatch hq
  | p :: r, q :: s, ha, hb, h => by
    have e1 : p.1 = q.1 := Int.le_antisymm (nf_low ha ((h q.1).mpr (nf_first hb))) (nf_low hb ((h p.1).mp (nf_first ha)))
    obtain ⟨ho, hr, hg⟩ := nf_cons ha
    obtain ⟨ho', hs, hg'⟩ := nf_cons hb
    -- behind p.2 there is a gap in both
    have gap : ∀ {p q : Int × Int} {r s : List (Int × Int)}, NF (p :: r) → NF (q :: s) → (∀ x, memP x (p :: r) ↔ memP x (q :: s)) → p.1 = q.1 → q.2 ≤ p.2 := by
      intro p q r s ha hb h e1
      obtain ⟨ho, hr, hg⟩ := nf_cons ha
      obtain ⟨ho', hs, hg'⟩ := nf_cons hb
      by_cases hlt : p.2 < q.2
      · obtain ⟨u, hu, hx⟩ := (h (p.2 + 1)).mpr ⟨q, List.mem_cons_self, by omega, by omega⟩
        rcases List.mem_cons.mp hu with rfl | hu
        · have := hx.2; omega
        · have h1 := hg u hu
          have h2 := hx.1
          omega
      · omega
    have e2 : p.2 = q.2 := Int.le_antisymm (gap hb ha (fun x => (h x).symm) e1.symm) (gap ha hb h e1)
    have e : p = q := Prod.ext e1 e2
    subst e
    have tail : ∀ {r s : List (Int × Int)}, NF (p :: r) → NF (p :: s) → (∀ x, memP x (p :: r) ↔ memP x (p :: s)) → ∀ x, memP x r → memP x s := by
      intro r s ha hb h x ⟨u, hu, hx⟩
      obtain ⟨_, hr, hg⟩ := nf_cons ha
      have h1 := hg u hu
      obtain ⟨v, hv, hx'⟩ := (h x).mp ⟨u, List.mem_cons_of_mem _ hu, hx⟩
      rcases List.mem_cons.mp hv with rfl | hv
      · have := hx'.2
        have := hx.1
        omega
      · exact ⟨v, hv, hx'⟩
    rw [nf_uniq hr hs fun x => ⟨tail ha hb h x, tail hb ha (fun x => (h x).symm) x⟩]
theorem unionF_id {ps : List (Int × Int)} (h : NF ps) : unionF ps = ps := nf_uniq (unionF_nf h.1) h fun x => unionF_mem h.1 x
end G
set_option Elab.async false
set_option linter.all false
set_option maxRecDepth 100000
set_option maxHeartbeats 2000000
namespace G
open PySem PySem.Spec PyProof.Rows L2 StX

/-! ### a set display with two clauses and no tests, its items ints -/
abbrev scE (el t1 i1 t2 i2 : Expr) (sc : Scope) (ps : Pos) : Expr := .SetComp el [⟨t1, i1, [], 0⟩, ⟨t2, i2, [], 0⟩] sc ps
section
variable {prog : Program} {w : World} {A : Around} {R : Result → Shared → Prop} {s : Shared} {el t1 i1 t2 i2 : Expr} {sc : Scope} {ps : Pos} {it acc : Value} {env : Env}
theorem sc2_outer : compTurn (scE el t1 i1 t2 i2 sc ps) 0 it acc env = (do
    standAt i1.pos
    match ← pyNext it with
    | none => pure (.done .next)
    | some u =>
      letOwnedTupleGo t1 it u
      assign t1 env u
      let y ← eval i2 env
      standAt i2.pos
      let y ← foldedSetIterable i2 env y
      let _ ← runOwn (.compStart (scE el t1 i1 t2 i2 sc ps) 1 (← holding [y] (pyIter y)) acc env) env
      again (.compLoop (scE el t1 i1 t2 i2 sc ps) 0 it acc env)) := by rfl
theorem sc2_inner : compTurn (scE el t1 i1 t2 i2 sc ps) 1 it acc env = (do
    standAt i2.pos
    match ← pyNext it with
    | none => pure (.done .next)
    | some u =>
      letOwnedTupleGo t2 it u
      assign t2 env u
      (do let y ← eval el env; standAt el.pos; let _ ← call (.builtin "set.add") [acc, y])
      again (.compLoop (scE el t1 i1 t2 i2 sc ps) 1 it acc env)) := by rfl
/-- the outer loop by a measured invariant: in a turn the second clause runs to its end -/
theorem sc2_loop0 (hf : ∀ y, foldedSetIterable i2 env y = pure y) (J : Nat → Shared → Prop)
    (tn : ∀ n z, J n z → wpAny (model prog w) A (pyNext it) (fun r z1 => match r with
      | none => R (.ok .next) z1
      | some u => wpAny (model prog w) A (letOwnedTupleGo t1 it u) (fun _ z2 => wpAny (model prog w) A (assign t1 env u) (fun _ z3 => wpAny (model prog w) A (eval i2 env) (fun y z4 => wpAny (model prog w) A (pyIter y) (fun i' z5 =>
          codeAny (model prog w) A (.compStart (scE el t1 i1 t2 i2 sc ps) 1 i' acc env) (fun r z6 => (∃ f, r = .ok f) ∧ ∃ k, k < n ∧ J k z6) z5)
            (notedBy (model prog w) A env fun e z => R (.error e) z) z4) (notedBy (model prog w) A env fun e z => R (.error e) z) z3) (notedBy (model prog w) A env fun e z => R (.error e) z) z2) (notedBy (model prog w) A env fun e z => R (.error e) z) z1) (notedBy (model prog w) A env fun e z => R (.error e) z) z)
    (n : Nat) (h : J n s) : codeAny (model prog w) A (.compLoop (scE el t1 i1 t2 i2 sc ps) 0 it acc env) R s := by
  apply codeAny_loop rfl J _ n h
  intro n z hz
  apply wpAny_noted
  rw [sc2_outer]
  refine wpAny_bind (wpAny_standAt (wpAny_bind (wpAny_mono (tn n z hz) (fun r z1 q1 => ?_) fun _ _ q => q)))
  match r, q1 with
  | none, q1 => exact wpAny_pure q1
  | some u, q1 =>
    refine wpAny_bind (wpAny_mono q1 (fun _ z2 q2 => wpAny_bind (wpAny_mono q2 (fun _ z3 q3 => ?_) fun _ _ q => q)) fun _ _ q => q)
    refine wpAny_bind (wpAny_mono q3 (fun y z4 q4 => wpAny_bind (wpAny_standAt (wpAny_bind (wpAny_of_eq (hf y) ?_)))) fun _ _ q => q)
    refine wpAny_bind (wpAny_holding (wpAny_mono q4 (fun i' z5 q5 => wpAny_bind (wpAny_runOwn ?_)) fun _ _ q => q))
    rw [Around.mark_none]
    apply codeAny_mono q5
    rintro r z6 ⟨⟨f, rfl⟩, hk⟩
    first
    | exact wpAny_pure ⟨rfl, hk⟩
    | exact wpAny_bind (wpAny_pure (wpAny_pure ⟨rfl, hk⟩))
theorem sc2_loop1 (J : Nat → Shared → Prop)
    (tn : ∀ n z, J n z → wpAny (model prog w) A (pyNext it) (fun r z1 => match r with
      | none => R (.ok .next) z1
      | some u => wpAny (model prog w) A (letOwnedTupleGo t2 it u) (fun _ z2 => wpAny (model prog w) A (assign t2 env u) (fun _ z3 => wpAny (model prog w) A (eval el env) (fun y z4 =>
          wpAny (model prog w) A (call (.builtin "set.add") [acc, y]) (fun _ z5 => ∃ k, k < n ∧ J k z5)
            (notedBy (model prog w) A env fun e z => R (.error e) z) z4) (notedBy (model prog w) A env fun e z => R (.error e) z) z3) (notedBy (model prog w) A env fun e z => R (.error e) z) z2) (notedBy (model prog w) A env fun e z => R (.error e) z) z1) (notedBy (model prog w) A env fun e z => R (.error e) z) z)
    (n : Nat) (h : J n s) : codeAny (model prog w) A (.compLoop (scE el t1 i1 t2 i2 sc ps) 1 it acc env) R s := by
  apply codeAny_loop rfl J _ n h
  intro n z hz
  apply wpAny_noted
  rw [sc2_inner]
  refine wpAny_bind (wpAny_standAt (wpAny_bind (wpAny_mono (tn n z hz) (fun r z1 q1 => ?_) fun _ _ q => q)))
  match r, q1 with
  | none, q1 => exact wpAny_pure q1
  | some u, q1 =>
    refine wpAny_bind (wpAny_mono q1 (fun _ z2 q2 => wpAny_bind (wpAny_mono q2 (fun _ z3 q3 => wpAny_bind ?_) fun _ _ q => q)) fun _ _ q => q)
    refine wpAny_bind (wpAny_mono q3 (fun y z4 q4 => wpAny_bind (wpAny_standAt (wpAny_bind ?_))) fun _ _ q => q)
    exact wpAny_mono q4 (fun _ z5 q5 => wpAny_pure (wpAny_pure ⟨rfl, q5⟩)) fun _ _ q => q
/-- the second clause begins -/
theorem sc2_start1 (h0 : codeAny (model prog w) A (.compLoop (scE el t1 i1 t2 i2 sc ps) 1 it acc env) R s)
    (h : wpAny (model prog w) A (pyIter it) (fun i' z => codeAny (model prog w) A (.compLoop (scE el t1 i1 t2 i2 sc ps) 1 i' acc env) R z) (notedBy (model prog w) A env fun e z => R (.error e) z) s) :
    codeAny (model prog w) A (.compStart (scE el t1 i1 t2 i2 sc ps) 1 it acc env) R s := by
  apply codeAny_of_tree
  apply wpAny_notedAt
  unfold compStart
  refine wpAny_bind (wpAny_askSetting (wpAny_ite ?_))
  split
  · first
    | exact wpAny_bind (wpAny_pure (wpAny_pure ⟨rfl, h0⟩))
    | exact wpAny_pure ⟨rfl, h0⟩
  · have go : ∀ i' z, codeAny (model prog w) A (.compLoop (scE el t1 i1 t2 i2 sc ps) 1 i' acc env) R z → _ := fun i' z q => q
    first
    | exact wpAny_bind (wpAny_rule (wpAny_bind (wpAny_standAt (wpAny_bind (wpAny_mono h (fun _ _ q => wpAny_pure ⟨rfl, q⟩) fun _ _ q => q)))))
    | (apply wpAny_bind; apply wpAny_rule; exact wpAny_bind (wpAny_standAt (wpAny_bind (wpAny_mono h (fun _ _ q => wpAny_pure ⟨rfl, q⟩) fun _ _ q => q))))
end
end G
namespace G
open PySem PySem.Spec PyProof.Rows L2 StX
/-- the set at D gets the int c -/
def putS (w : World) (D : Addr) (c : Int) (S : Int → Bool) (n : Nat) (H : Hp) : Hp := upd H D (SetO w D (fun j => S j || decide (j = c)) (if S c = true then n else n + 1))
def tSc2 (w : World) (wi : TI) (g : TG) (wj : TI) (g2 : TG) (te : TE) (vs vs1 : List Nat) : TE := fun σ H Q => wi σ H fun J H1 => ∀ D, H1 D = none → ∃ W : Nat → Nat → Hp → Prop, (∃ m, W 0 m (upd H1 D (SetO w D (fun _ => false) 0))) ∧
  ∀ i m H2, W i m H2 → (J.stop i H2 ∧ Q (.ref D) H2) ∨ (J.go i H2 ∧ ∃ Z : Hp → Prop, (∀ H', Z H' → ∃ m', m' < m ∧ W (i + 1) m' H') ∧
    ∀ x H', J.yld i H2 x H' → g x (wipe σ vs) H' fun σ2 H3 => wipe σ2 vs = wipe σ vs ∧ wj σ2 H3 fun J1 H4 => ∃ V1 : Nat → Nat → Hp → Prop, (∃ k, V1 0 k H4) ∧
      ∀ j k H5, V1 j k H5 → (J1.stop j H5 ∧ Z H5) ∨ (J1.go j H5 ∧ ∃ Z1 : Hp → Prop, (∀ H', Z1 H' → ∃ k', k' < k ∧ V1 (j + 1) k' H') ∧
        ∀ x H', J1.yld j H5 x H' → g2 x (wipe σ2 vs1) H' fun σ3 H6 => wipe σ3 vs1 = wipe σ2 vs1 ∧ te σ3 H6 fun y H7 => ∃ c S n, y = .int c ∧ H7 D = some (SetO w D S n) ∧ n + 1 < scanBound ∧ Z1 (putS w D c S n H7)))
section
variable {X : Cx}
/-- an iterator's own objects, seen from within the block -/
theorem blk_fp {s0 : Shared} {H0 : Hp} {sc : Scope} {ce : Env} {fp : List Addr} {σ : L2.St} {H : Hp} {s : Shared} (I : L2.Inv (X.blk s0 H0 sc ce fp) [] σ H s) (hn : ∀ b ∈ fp, H b = none) : ∀ b ∈ fp, FpOk (X.blk s0 H0 sc ce fp) [] H b := by
  intro b hb
  obtain ⟨h1, h2⟩ := I.ok.exf b hb
  exact ⟨hn b hb, h1, I.ok.exfs b hb, Or.inl hb, fun y c => h2 y c, fun p hp => by cases (show p ∈ ([] : List (Addr × Obj)) ++ [] from hp)⟩
/-- an int is added to the set at D -/
theorem add_int {pins : List (Addr × Obj)} {σ : L2.St} {H : Hp} {s : Shared} {D : Addr} {S : Int → Bool} {n : Nat} {c : Int} {u : Value} {Q : Value → Shared → Prop} {E : Value → Shared → Prop} (I : L2.Inv X pins σ H s) (hu : L2.RelV (.int c) u) (hD : H D = some (SetO X.w D S n)) (room : n + 1 < scanBound)
    (q : ∀ r z, L2.Inv X pins σ (putS X.w D c S n H) z → Q r z) : wpAny (model X.prog X.w) X.A (call (.builtin "set.add") [.ref D, u]) Q E s := by
  obtain ⟨t, rfl⟩ := hu
  have R := setO_get I hD
  refine setR_add R room fun h' sb new => ?_
  have he : ∃ o, h'.get? D = some o := by
    obtain ⟨o, _, _, _, ho, _⟩ := new
    exact ⟨o, ho⟩
  refine q _ _ (I.write (e := D) (t' := s.toks + 1) ?_ (.inl rfl) ?_ he (setO_new new))
  · rw [hD]; trivial
  · exact fun b o hb ho => (sb.2 b hb).trans ho
/-- the second clause, from its source on, in the block's context Y -/
theorem sc2_second {Y : Cx} {el t1 i1 t2 i2 : Expr} {sc : Scope} {ps : Pos} {vs1 : List Nat} {wj : TI} {g2 : TG} {te : TE} {D : Addr} {Z : Hp → Prop} {pins : List (Addr × Obj)} {σ2 : L2.St} {H4 : Hp} {z : Shared} {E : Value → Shared → Prop}
    (hc : Y.calm = true) (hxe : Y.xe = fun _ _ => False) (pj : PI Y t2 i2 wj) (pg2 : PG Y t2 g2) (pe : PE Y el te) (I : L2.Inv Y pins σ2 H4 z)
    (q : wj σ2 H4 fun J1 H4 => ∃ V1 : Nat → Nat → Hp → Prop, (∃ k, V1 0 k H4) ∧ ∀ j k H5, V1 j k H5 → (J1.stop j H5 ∧ Z H5) ∨ (J1.go j H5 ∧ ∃ Z1 : Hp → Prop, (∀ H', Z1 H' → ∃ k', k' < k ∧ V1 (j + 1) k' H') ∧
        ∀ x H', J1.yld j H5 x H' → g2 x (wipe σ2 vs1) H' fun σ3 H6 => wipe σ3 vs1 = wipe σ2 vs1 ∧ te σ3 H6 fun y H7 => ∃ c S n, y = .int c ∧ H7 D = some (SetO Y.w D S n) ∧ n + 1 < scanBound ∧ Z1 (putS Y.w D c S n H7))) :
    wpAny (model Y.prog Y.w) Y.A (eval i2 Y.env) (fun y z1 => wpAny (model Y.prog Y.w) Y.A (pyIter y) (fun i' z2 =>
      codeAny (model Y.prog Y.w) Y.A (.compStart (scE el t1 i1 t2 i2 sc ps) 1 i' (.ref D) Y.env) (fun r z3 => (∃ f, r = .ok f) ∧ ∃ H', L2.Inv Y pins (wipe σ2 vs1) H' z3 ∧ Z H') z2) E z1) E z := by
  have run := pj.run pins z σ2 H4 _ I q
  rw [hxe] at run
  refine thnF run fun y z1 a => thnF a fun i' z2 b => ?_
  obtain ⟨it, fp, tn, J1, H5, rfl, I5, T1, st, f5, V1, ⟨k0, v0⟩, turn⟩ := b
  have fpy : ∀ {H' : Hp}, (∀ b ∈ fp, H' b = none) → ∀ b ∈ fp, FpOk Y pins H' b := fun hn b hb => ⟨hn b hb, (f5 b hb).2⟩
  have loop : codeAny (model Y.prog Y.w) Y.A (.compLoop (scE el t1 i1 t2 i2 sc ps) 1 (.ref it) (.ref D) Y.env) (fun r z3 => (∃ f, r = .ok f) ∧ ∃ H', L2.Inv Y pins (wipe σ2 vs1) H' z3 ∧ Z H') z2 := by
    refine sc2_loop1 (fun n z => ∃ j H', L2.Inv Y pins (wipe σ2 vs1) H' z ∧ tn j z.heap ∧ (∀ b ∈ fp, H' b = none) ∧ V1 j n H') ?_ k0 ⟨0, H5, I5.weak (wipe_length _ _) (fun _ _ e => (wipe_some e).1), st, fun b hb => (f5 b hb).1, v0⟩
    rintro n z5 ⟨j, H6, I6, st6, n6, v6⟩
    rcases turn j n H6 v6 with ⟨stop, nx⟩ | ⟨go, Z1, hZ1, step⟩
    · refine thnF (T1.done Y rfl rfl rfl hc j pins z5 _ H6 (fun _ _ => False) I6 (fpy n6) st6 stop) fun r z6 ⟨hr, I7⟩ => ?_
      subst hr
      exact ⟨⟨_, rfl⟩, H6, I7, nx⟩
    · refine thnF (T1.item Y rfl rfl rfl hc j pins z5 _ H6 (fun _ _ => False) I6 (fpy n6) st6 go) fun r z6 ⟨u, hr, a⟩ => ?_
      subst hr
      refine thnF a fun _ z7 ⟨x, H7, I7, rx, y7, st7, n7⟩ => ?_
      have r2 := pg2.run _ z7 (wipe σ2 vs1) H7 x u _ (I7.pinned (fpy n7) (T1.obj _ _ st7)) rx (step x H7 y7)
      rw [hxe] at r2
      refine thnF r2 fun _ z8 ⟨σ8, H8, I8, hw8, q8⟩ => ?_
      have r3 := pe.run _ z8 σ8 H8 _ I8 q8
      rw [hxe] at r3
      refine thnF r3 fun v z9 ⟨yv, H9, I9, r9, c, S, m, hy, hD9, room, nz⟩ => ?_
      subst hy
      refine add_int I9 r9 hD9 room fun _ z10 I10 => ?_
      obtain ⟨k', hk', w'⟩ := hZ1 _ nz
      have still : ∀ b ∈ fp, ∀ o, z7.heap.get? b = some o → z10.heap.get? b = some o ∧ putS Y.w D c S m H9 b = none := fun b hb o e => by
        have p := I10.pin (b, o) (List.mem_append_right _ (List.mem_append_right _ (mem_pinsAt hb e)))
        exact ⟨p.1, p.2.1⟩
      refine ⟨k', hk', j + 1, _, I10.unpinned.weak (by rw [← hw8, wipe_length]) (fun i v e => ?_), T1.keep _ _ _ st7 fun b hb o e => (still b hb o e).1, fun b hb => ?_, w'⟩
      · rw [← hw8] at e
        exact (wipe_some e).1
      · obtain ⟨o, e, _⟩ := T1.obj _ _ st7 b hb
        exact (still b hb o e).2
  exact sc2_start1 loop (T1.self Y.A 0 z2 _ _ st loop)
theorem pe_sc2 {el t1 i1 t2 i2 : Expr} {sc : Scope} {ps : Pos} {own : List (Str × Nat)} {vs1 : List Nat} {wi wj : TI} {g g2 : TG} {te : TE} (hc : X.calm = true) (hN : X.N.Nodup) (hi : PI X t1 i1 wi) (ok : BlkOk X.N X.env.scope sc own) (hv : ∀ i ∈ vs1, i ∈ own.map (·.2))
    (hg : ∀ (s : Shared) (H : Hp) (C : Addr) (cl : List (Str × Addr)) (fp : List Addr), PG (X.blk s H sc (compEnvC sc cl C X.env) fp) t1 g)
    (hj : ∀ (s : Shared) (H : Hp) (C : Addr) (cl : List (Str × Addr)) (fp : List Addr), PI (X.blk s H sc (compEnvC sc cl C X.env) fp) t2 i2 wj)
    (hg2 : ∀ (s : Shared) (H : Hp) (C : Addr) (cl : List (Str × Addr)) (fp : List Addr), PG (X.blk s H sc (compEnvC sc cl C X.env) fp) t2 g2)
    (he : ∀ (s : Shared) (H : Hp) (C : Addr) (cl : List (Str × Addr)) (fp : List Addr), PE (X.blk s H sc (compEnvC sc cl C X.env) fp) el te)
    (hf1 : ∀ y, foldedSetIterable i1 X.env y = pure y := by intro _; rfl) (hf2 : ∀ e y, foldedSetIterable i2 e y = pure y := by intro _ _; rfl) :
    PE X (scE el t1 i1 t2 i2 sc ps) (tSc2 X.w wi g wj g2 te (own.map (·.2)) vs1) := by
  constructor
  intro pins s σ H Q I h
  rw [PpSet.eval_SetComp]
  have hfree : ∀ y ∈ sc.names, y.2 = .free → ∃ c, X.env.cells.lookup y.1 = some c := by
    intro y hy e
    exact (ok.free y hy e).elim (fun q => I.ok.has _ (.inl q)) fun q => I.ok.has _ (.inr q)
  refine wpAny_comprehension_free (use := none) rfl hf1 (closure_ok hfree) ok.kind (fun y hy e => by rw [ok.uniq y hy, e]) (thn (hi.run pins s σ H _ I h) fun _ _ a => thn a fun _ z2 a => ?_)
  obtain ⟨it, fp, tn, J, H2, rfl, I2, T, st2, f2, q⟩ := a
  refine PpSet.newSet_ok (newEnv_comp ?_)
  obtain ⟨D, hD⟩ : ∃ D, z2.heap.objs.size = D := ⟨_, rfl⟩
  rw [hD]
  have nD : H2 D = none := I2.hok.fresh (Nat.le_of_eq hD)
  obtain ⟨W, ⟨m0, w0⟩, turn⟩ := q D nD
  obtain ⟨z3, hz3⟩ : ∃ z3 : Shared, ({ z2 with heap := z2.heap.push { cls := .type "set", dict := none, data := .set #[] 0 (.fresh 0 0 (!X.w.params.followText "set-order")) } } : Shared) = z3 := ⟨_, rfl⟩
  have hh3 : z3.heap = z2.heap.push { cls := .type "set", dict := none, data := .set #[] 0 (.fresh 0 0 (!X.w.params.followText "set-order")) } := by rw [← hz3]
  have kp3 : ∀ b o, z2.heap.get? b = some o → z3.heap.get? b = some o := fun b o e => by rw [hh3]; exact Heap.get?_push_of_some _ e
  obtain ⟨H3, hH3⟩ : ∃ H3, upd H2 D (SetO X.w D (fun _ => false) 0) = H3 := ⟨_, rfl⟩
  rw [hH3] at w0
  have I3 : L2.Inv X pins σ H3 z3 := by
    rw [← hH3, ← hz3]
    refine I2.laid (t' := z2.toks) (fun _ _ e => Heap.get?_push_of_some _ e) (Nat.le_of_eq hD) ?_
    rw [← hD]
    exact setO_new (setR_fresh X.w)
  have small : ∀ b ∈ fp, b < z2.heap.objs.size := fun b hb => (T.obj _ _ st2 b hb).elim fun o e => Heap.lt_size e.1
  have n3 : ∀ b ∈ fp, H3 b = none := fun b hb => by
    have hne : b ≠ D := Nat.ne_of_lt (hD ▸ small b hb)
    rw [← hH3, upd_ne hne]
    exact (f2 b hb).1
  have f3 : ∀ b ∈ fp, FpOk X pins H3 b ∧ b < z3.heap.objs.size := fun b hb =>
    ⟨⟨n3 b hb, (f2 b hb).2⟩, by rw [hh3, Heap.size_push]; exact Nat.lt_succ_of_lt (small b hb)⟩
  have st3 : tn 0 z3.heap := T.keep _ _ _ st2 fun b _ o e => kp3 b o e
  have I4 := block_start I3 ok hN f3
  -- the block
  obtain ⟨ce, hce⟩ : ∃ ce, compEnvC sc (cellsFrom (z3.heap.objs.size + 1) sc.names (cloFrom X.env.cells sc.names [])) z3.heap.objs.size X.env = ce := ⟨_, rfl⟩
  have pg := hg z3 H3 z3.heap.objs.size (cellsFrom (z3.heap.objs.size + 1) sc.names (cloFrom X.env.cells sc.names [])) fp
  have pj := hj z3 H3 z3.heap.objs.size (cellsFrom (z3.heap.objs.size + 1) sc.names (cloFrom X.env.cells sc.names [])) fp
  have pg2 := hg2 z3 H3 z3.heap.objs.size (cellsFrom (z3.heap.objs.size + 1) sc.names (cloFrom X.env.cells sc.names [])) fp
  have pe := he z3 H3 z3.heap.objs.size (cellsFrom (z3.heap.objs.size + 1) sc.names (cloFrom X.env.cells sc.names [])) fp
  rw [hce] at I4 pg pj pg2 pe
  have hloc : ce.locals = z3.heap.objs.size := by rw [← hce]; rfl
  obtain ⟨z4, hz4⟩ : ∃ z4 : Shared, ({ z3 with heap := pushCells (z3.heap.push { cls := .type "dict", data := .dict #[] }) sc.names } : Shared) = z4 := ⟨_, rfl⟩
  rw [hz4] at I4
  have st4 : tn 0 z4.heap := T.keep _ _ _ st3 fun b _ o e => by rw [← hz4]; exact pushCells_keeps _ _ _ _ (Heap.get?_push_of_some _ e)
  have stay : ∀ {σ' : L2.St} {H' : Hp} {z : Shared}, L2.Inv (X.blk z3 H3 sc ce fp) [] σ' H' z → (∀ b ∈ fp, H' b = none) → ∀ b ∈ fp, FpOk (X.blk z3 H3 sc ce fp) [] H' b := blk_fp
  have loop : codeAny (model X.prog X.w) X.A (.compLoop (scE el t1 i1 t2 i2 sc ps) 0 (.ref it) (.ref D) ce) (compPost (model X.prog X.w) X.A X.xe none (EP X pins σ Q) (.ref D) z3.heap.objs.size) z4 := by
    refine sc2_loop0 (hf2 ce) (fun n z => ∃ i H', L2.Inv (X.blk z3 H3 sc ce fp) [] (wipe σ (own.map (·.2))) H' z ∧ tn i z.heap ∧ (∀ b ∈ fp, H' b = none) ∧ W i n H') ?_ m0 ⟨0, H3, I4, st4, n3, w0⟩
    rintro n z5 ⟨i, H5, I5, st5, n5, w5⟩
    rcases turn i n H5 w5 with ⟨stop, qq⟩ | ⟨go, Z, hZ, step⟩
    · refine thnF (T.done (X.blk z3 H3 sc ce fp) rfl rfl rfl hc i [] z5 _ H5 (fun _ _ => False) I5 (stay I5 n5) st5 stop) fun r z6 ⟨hr, I6⟩ => ?_
      subst hr
      have I7 : L2.Inv X pins σ H5 z6 := I3.call' (ch := fp) I6.os I6.base I6.hok I6.bare fun b hb => by
        obtain ⟨_, a1, a2, a3, a4, a5⟩ := (f3 b hb).1
        exact ⟨a3, a1, a4, a5⟩
      have nC : H5 z3.heap.objs.size = none := by
        have z : H5 ce.locals = none := I6.free
        rw [hloc] at z
        exact z
      obtain ⟨m, hn, _⟩ := I6.loc
      have hn : z6.heap.Ns ce.locals m := hn
      rw [hloc] at hn
      obtain ⟨b0, b1, b2, b3, b4, b5⟩ := I3.fpOk (Nat.le_refl _) nC
      exact ⟨m, hn, fun h'' sb => ⟨.ref D, H5, I7.turned (t' := z6.toks) (fun b o hb e => (sb.2 b hb).trans e) b0 b1 b3 b4 b5, rfl, qq⟩⟩
    · refine thnF (T.item (X.blk z3 H3 sc ce fp) rfl rfl rfl hc i [] z5 _ H5 (fun _ _ => False) I5 (stay I5 n5) st5 go) fun r z6 ⟨u, hr, a⟩ => ?_
      subst hr
      refine thnF a fun _ z7 ⟨x, H7, I7, rx, y7, st7, n7⟩ => ?_
      refine thnF (pg.run _ z7 _ H7 x u _ (I7.pinned (stay I7 n7) (T.obj _ _ st7)) rx (step x H7 y7)) fun _ z8 ⟨σ8, H8, I8, hw8, q8⟩ => ?_
      refine thnF (sc2_second (Y := X.blk z3 H3 sc ce fp) (el := el) (t1 := t1) (i1 := i1) (sc := sc) (ps := ps) (D := D) (vs1 := vs1) hc rfl pj pg2 pe I8 q8) fun y z9 a => thnF a fun i' z10 b => codeAny_mono b fun r z11 ⟨hr, H11, I11, hz⟩ => ⟨hr, ?_⟩
      obtain ⟨m', hm', w'⟩ := hZ _ hz
      have still : ∀ b ∈ fp, ∀ o, z7.heap.get? b = some o → z11.heap.get? b = some o ∧ H11 b = none := fun b hb o e => by
        have p := I11.pin (b, o) (List.mem_append_right _ (List.mem_append_right _ (mem_pinsAt hb e)))
        exact ⟨p.1, p.2.1⟩
      refine ⟨m', hm', i + 1, H11, (I11.unpinned (pins := [])).weak (by rw [← hw8, wipe_length, wipe_length]) (fun j v e => ?_), T.keep _ _ _ st7 fun b hb o e => (still b hb o e).1, fun b hb => ?_, w'⟩
      · rw [← hw8] at e
        obtain ⟨e1, e2⟩ := wipe_some e
        rw [wipe_out fun z => e2 (hv j z)]
        exact e1
      · obtain ⟨o, e, _⟩ := T.obj _ _ st7 b hb
        exact (still b hb o e).2
  subst hz4
  subst hce
  subst hz3
  exact PpSet.codeAny_compStart_set loop (T.self X.A 0 _ _ _ st4 loop)
end
end G
set_option Elab.async false
set_option linter.all false
set_option maxRecDepth 100000
set_option maxHeartbeats 2000000
namespace G
open PySem PySem.Spec PyProof.Rows L2 StX

/-! ### turns by an index -/
theorem turns {J : It} {n : Nat} {B : V → Hp → (Hp → Prop) → Prop} {Zf : Hp → Prop} {H0 : Hp} (P : Nat → Hp → Prop) (h0 : P 0 H0) (hgo : ∀ i H, i < n → P i H → J.go i H) (hst : ∀ H, P n H → J.stop n H)
    (hs : ∀ i H x H', i < n → P i H → J.yld i H x H' → B x H' (P (i + 1))) (hd : ∀ H, P n H → Zf H) :
    ∃ W : Nat → Nat → Hp → Prop, (∃ m, W 0 m H0) ∧ ∀ i m H, W i m H → (J.stop i H ∧ Zf H) ∨ (J.go i H ∧ ∃ Z : Hp → Prop, (∀ H', Z H' → ∃ m', m' < m ∧ W (i + 1) m' H') ∧ ∀ x H', J.yld i H x H' → B x H' Z) := by
  refine ⟨fun i m H => m + i = n ∧ P i H, ⟨n, rfl, h0⟩, fun i m H ⟨e, p⟩ => ?_⟩
  rcases Nat.eq_zero_or_pos m with hm | hm
  · have hi : i = n := by omega
    subst hi
    exact .inl ⟨hst H p, hd H p⟩
  · exact .inr ⟨hgo i H (by omega) p, P (i + 1), fun H' p' => ⟨m - 1, by omega, by omega, p'⟩, fun x H' y => hs i H x H' (by omega) p y⟩

/-! ### sets of ints -/
structure IS where
  w : World
  S : Int → Bool
  n : Nat
instance : Rep IS := ⟨fun W H v s => ∃ a, v = .ref a ∧ ¬ W.mu a ∧ H a = some (SetO s.w a s.S s.n), fun e ⟨a, hv, m, h⟩ => ⟨a, hv, m, e _ _ m h⟩, fun D n ⟨a, hv, m, h⟩ => ⟨a, hv, mu_grow n m h, h⟩, fun D ⟨a, hv, m, h⟩ => ⟨a, hv, fun z => m (.inl z), h⟩⟩
/-- the world where a new object at D is kept apart -/
def Wd.plusO (W : Wd) (D : Addr) (o : HO) (H1 : Hp) (n : H1 D = none) (o1 : W.ok H1) (w1 : W.wish H1) : Wd where
  toWc := W.toWc.plus D
  ok := fun H => W.ok H ∧ H D = some o
  live := fun H a ⟨h, e⟩ m => m.elim (W.live H a h) fun m => ⟨o, by rw [m]; exact e⟩
  st := fun H p u ⟨h, e⟩ m => ⟨W.st H p u h fun z => m (.inl z), by rw [upd_ne (fun z => m (.inr z.symm))]; exact e⟩
  wish := fun H => Kp W.toWc H1 H
  wst := fun H H' k _ w a u m e => k a u (fun z => z.elim m fun z => by rw [z, n] at e; cases e) (w a u m e)
  hasbox := fun H b h hb => W.hasbox H b h.1 hb
  boxset := fun H b c i p s i' p' s' h hb q h1 h2 => ⟨W.boxset H b c i p s i' p' s' h.1 hb q h1 h2, by
    have z : D ≠ b := fun z => fresh_mu o1 n (z ▸ W.boxmu b hb)
    rw [upd_ne z]; exact h.2⟩
  boxmu := fun b hb => .inl (W.boxmu b hb)
  oke := fun H H' h k => ⟨W.oke H H' h.1 k, k _ _ h.2⟩
theorem Sub.plusO {W : Wd} {D : Addr} {o : HO} {H1 : Hp} {n : H1 D = none} {o1 : W.ok H1} {w1 : W.wish H1} : Sub W (W.plusO D o H1 n o1 w1) :=
  ⟨rfl, fun _ h => h.1, fun H h w => W.wst H1 H w h.1 w1⟩
section
variable {W : Wd} {Γ : Gam} {ta : TA} {te tb to tl ti : TE} {tt : TT} {g g2 : TG} {K : PySem.W.Frag}
/-- one turn of the outer clause: the inner source's items are b, each gives its int -/
def Sc2Turn {α β : Type} [Rep α] [Rep β] (W0 W : Wd) (g : TG) (ti : TE) (g2 : TG) (te : TE) (vs vs1 : List Nat) (Γ : Gam) (a : α) (f : List Int) : Prop :=
  ∃ js : List Nat, (js.all fun j => vs.contains j) = true ∧ Tj W js g (wipeE Γ vs) a fun Γ1 => EvK W ti Γ1 fun bs : Tl β => ∃ h : β → Int, bs.xs.map h = f ∧
    ∀ W', Sub W0 W' → ∀ b ∈ bs.xs, ∃ js2 : List Nat, (js2.all fun j => vs1.contains j) = true ∧ Tj W' js2 g2 (wipeE Γ1 vs1) b fun Γ2 => EvK W' te Γ2 fun y : Int => y = h b
theorem js_in {js vs : List Nat} (h : (js.all fun j => vs.contains j) = true) : ∀ j ∈ js, j ∈ vs := fun j hj => by
  have := List.all_eq_true.mp h j hj
  simpa using this
/-- the set after the ints xs -/
def setOf (xs : List Int) : Int → Bool := fun j => decide (j ∈ xs)
theorem setOf_put (xs : List Int) (c : Int) : (fun j => setOf xs j || decide (j = c)) = setOf (xs ++ [c]) := by
  funext j
  unfold setOf
  rw [Bool.eq_iff_iff]
  simp
theorem ev_sc2 {α β : Type} {rα : Rep α} {rβ : Rep β} {w : World} {vs vs1 : List Nat} (f : α → List Int) {k : IS → Prop} (hK : W.B.K = K)
    (h : EvK W tl Γ fun as : List α => ((as.flatMap f).length ≤ 1000) ∧ (∀ W', Sub W W' → ∀ a ∈ as, Sc2Turn (β := β) W W' g ti g2 te vs vs1 Γ a (f a)) ∧ ∀ n, n ≤ (as.flatMap f).length → k ⟨w, setOf (as.flatMap f), n⟩) :
    EvK W (tSc2 w (iList K tl) g (iTup K ti) g2 te vs vs1) Γ k := by
  subst hK
  intro σ H Q G c
  refine h σ H _ G fun v H1 as e1 ⟨p, xs, hv, hp, hd⟩ ⟨hbig, hs, hk⟩ => ⟨p, hv, ⟨xs, hp.sq⟩, fun D n => ?_⟩
  have G1 := G.ext e1
  have nm : ¬ W.mu D := fresh_mu e1.ok n
  have big : ∀ {m : Nat}, m ≤ 1000 → m + 1 < scanBound := fun h => Nat.lt_of_le_of_lt (Nat.succ_le_succ h) (by decide)
  -- the state with the ints ys in the set
  let P : List Int → Hp → Prop := fun ys H' => Ext W H1 H' ∧ ∃ n, n ≤ ys.length ∧ H' D = some (SetO w D (setOf ys) n)
  have hput : ∀ {ys : List Int} {c : Int} {H' : Hp} {S : Int → Bool} {m : Nat}, Ext W H1 H' → S = setOf ys → m ≤ ys.length → P (ys ++ [c]) (putS w D c S m H') := by
    intro ys c H' S m e hS hm
    refine ⟨⟨fun a o ma z => ?_, W.st _ _ _ e.ok nm⟩, (if S c = true then m else m + 1), ?_, ?_⟩
    · have hne : a ≠ D := fun q => by rw [q, n] at z; cases z
      show upd H' D _ a = some o
      rw [upd_ne hne]
      exact e.keep a o ma z
    · rw [List.length_append, List.length_singleton]
      split <;> omega
    · show upd H' D _ D = _
      rw [upd_same, hS, setOf_put]
  refine turns (J := Itl W.B.K p) (n := xs.length) (fun i H' => P ((as.take i).flatMap f) H') ⟨Ext.new e1.ok n, 0, Nat.le_refl _, upd_same⟩ (fun i H' hi ⟨e, _⟩ => ⟨xs, xs[i], (hp.mono e.keep).sq, List.getElem?_eq_getElem hi⟩) (fun H' ⟨e, _⟩ => ⟨xs, (hp.mono e.keep).sq, Nat.le_refl _⟩) ?_ ?_
  · rintro i H' x H'' hi ⟨e, m, hm, hD⟩ ⟨rfl, hx⟩
    have hx := hx xs (hp.mono e.keep).sq
    obtain ⟨a, ea, da⟩ := hd.at hx
    have ham : a ∈ as := List.mem_of_getElem? ea
    have htk : (as.take (i + 1)).flatMap f = (as.take i).flatMap f ++ f a := by
      rw [List.take_succ, ea, List.flatMap_append]
      simp
    have hlen : ((as.take (i + 1)).flatMap f).length ≤ 1000 := by
      have e2 : (as.flatMap f).length = ((as.take (i + 1)).flatMap f).length + ((as.drop (i + 1)).flatMap f).length := by
        rw [← List.length_append, ← List.flatMap_append, List.take_append_drop]
      omega
    have kp : Kp (W.toWc.plus D) H1 H'' := fun b o mb z => e.keep b o (fun z => mb (.inl z)) z
    obtain ⟨js, hjs, tj⟩ := hs _ (Sub.plusO (o := SetO w D (setOf ((as.take i).flatMap f)) m) (n := n) (o1 := e1.ok) (w1 := G1.wish)) a ham
    have G2 : GOk (W.plusO D (SetO w D (setOf ((as.take i).flatMap f)) m) H1 n e1.ok G1.wish) H'' σ Γ := ⟨⟨e.ok, hD⟩, fun b o mb z => e.keep b o mb z, fun j t hj => by
      obtain ⟨u, h1, h2⟩ := G1.at_ j t hj
      exact ⟨u, h1, Ty.mono kp (t.r.grow D n h2)⟩, G1.len⟩
    refine tj (wipe σ vs) H'' x _ (G2.wipe vs) (Rep.mono kp (Rep.grow D n da)) fun σ2 Γ2 G3 m2 q2 => ⟨wipe_same m2 (js_in hjs), ?_⟩
    refine q2 σ2 H'' _ G3 fun u H4 bs e4 ⟨p2, us, hu, hp2, hd2⟩ ⟨hf, hmap, turn⟩ => ⟨p2, hu, ⟨us, hp2.sq⟩, ?_⟩
    have back4 : Ext W H1 H4 := ⟨fun b o mb z => by
      have hne : b ≠ D := fun q => by rw [q, n] at z; cases z
      exact e4.keep b o (fun q => q.elim mb hne) (e.keep b o mb z), e4.ok.1⟩
    have hD4 : H4 D = some (SetO w D (setOf ((as.take i).flatMap f)) m) := e4.ok.2
    -- the inner clause
    have kp4 : ∀ {H' : Hp}, (∀ b o, ¬ (W.toWc.plus D).mu b → H4 b = some o → H' b = some o) → Tq (W.toWc.plus D) H' p2 us := fun k => hp2.mono k
    refine turns (J := Itt W.B.K p2) (n := us.length) (fun j H' => Kp (W.toWc.plus D) H4 H' ∧ P ((as.take i).flatMap f ++ (bs.xs.take j).map hf) H') ⟨fun _ _ _ z => z, back4, m, by simpa using hm, by simpa using hD4⟩ (fun j H' hj ⟨k, _⟩ => ⟨us, us[j], (kp4 k).sq, List.getElem?_eq_getElem hj⟩) (fun H' ⟨k, _⟩ => ⟨us, (kp4 k).sq, Nat.le_refl _⟩) ?_ ?_
    · rintro j H5 y H6 hj ⟨k5, e5, m5, hm5, hD5⟩ ⟨rfl, hy⟩
      have hy := hy us (kp4 k5).sq
      obtain ⟨b, eb, db⟩ := hd2.at hy
      have hbm : b ∈ bs.xs := List.mem_of_getElem? eb
      have htk2 : (bs.xs.take (j + 1)).map hf = (bs.xs.take j).map hf ++ [hf b] := by
        rw [List.take_succ, eb, List.map_append]
        rfl
      have hlen5 : ((as.take i).flatMap f ++ (bs.xs.take j).map hf).length ≤ 1000 := by
        have h1 : ((bs.xs.take j).map hf).length ≤ (f a).length := by
          rw [← hmap, List.length_map, List.length_map, List.length_take]
          omega
        rw [htk, List.length_append] at hlen
        rw [List.length_append]
        omega
      -- the world with the set as it stands now
      obtain ⟨js2, hjs2, tj2⟩ := turn _ (Sub.plusO (o := SetO w D (setOf ((as.take i).flatMap f ++ (bs.xs.take j).map hf)) m5) (n := n) (o1 := e1.ok) (w1 := G1.wish)) b hbm
      have G4 := G3.ext e4
      have G6 : GOk (W.plusO D (SetO w D (setOf ((as.take i).flatMap f ++ (bs.xs.take j).map hf)) m5) H1 n e1.ok G1.wish) H6 σ2 Γ2 := ⟨⟨e5.ok, hD5⟩, fun b o mb z => e5.keep b o mb z, fun q t hq => by
        obtain ⟨u, h1, h2⟩ := G4.at_ q t hq
        exact ⟨u, h1, Ty.mono (W := W.toWc.plus D) k5 h2⟩, G4.len⟩
      refine tj2 (wipe σ2 vs1) H6 y _ (G6.wipe vs1) (Rep.mono (W := W.toWc.plus D) k5 db) fun σ3 Γ3 G7 m3 q3 => ⟨wipe_same m3 (js_in hjs2), ?_⟩
      refine q3 σ3 H6 _ G7 fun yv H7 c0 e7 hc0 hcb => ⟨c0, _, m5, hc0, e7.ok.2, big (by omega), ?_⟩
      have e7' : Ext W H1 H7 := ⟨fun b o mb z => by
        have hne : b ≠ D := fun q => by rw [q, n] at z; cases z
        exact e7.keep b o (fun q => q.elim mb hne) (e5.keep b o mb z), e7.ok.1⟩
      refine ⟨fun b o mb z => ?_, ?_⟩
      · have hne : b ≠ D := fun q => mb (.inr q)
        show upd H7 D _ b = some o
        rw [upd_ne hne]
        exact e7.keep b o mb (k5 b o mb z)
      · rw [htk2, ← List.append_assoc, hcb]
        exact hput e7' rfl hm5
    · rintro H' ⟨k', p'⟩
      rw [hd2.length, List.take_length, hmap, ← htk] at p'
      exact p'
  · rintro H' ⟨e, m, hm, hD⟩
    rw [hd.length, List.take_length] at hm hD
    exact c (.ref D) H' ⟨w, _, m⟩ (e1.trans e) ⟨D, rfl, nm, hD⟩ (hk m hm)
end
end G
set_option Elab.async false
set_option linter.all false
set_option maxRecDepth 100000
set_option maxHeartbeats 2000000
namespace G
open PySem PySem.Spec PyProof.Rows L2 StX
section
variable {W : Wd} {Γ : Gam} {ta tb : TE} {te to tl ti : TE} {tt : TT} {g g2 : TG} {K : PySem.W.Frag}
theorem ev_sortedSet {w : World} {k : List Int → Prop} (h : EvK W te Γ fun s : IS => s.w = w ∧ s.n < 64 ∧ ∀ ns : List Int, ns.Pairwise (· < ·) → (∀ j, j ∈ ns ↔ s.S j = true) → ns.length = s.n → k ns) : EvK W (tCB (rSortedSet w) (tCons te tNil)) Γ k := by
  refine fun σ H Q G c => h σ H _ G fun v H1 s e1 ⟨a, hv, m, ha⟩ ⟨hw, h64, z⟩ => ?_
  subst hw
  refine ⟨a, s.S, s.n, by rw [hv], ha, h64, fun ns p h1 h2 h3 hp => ?_⟩
  have e2 := Ext.new (o := .lst (ns.map V.int)) e1.ok hp
  exact c (.ref p) _ ns (e1.trans e2) ⟨p, _, rfl, Lq.new (fresh_mu e1.ok hp) upd_same, Dl.of_ints ns⟩ (z ns h1 h2 h3)
/-- a written tuple of two of one kind, as a row of any length -/
theorem ev_tupL2 {α : Type} {rα : Rep α} {k : Tl α → Prop} (h : EvK W ta Γ fun a : α => EvK W tb Γ fun b : α => k ⟨[a, b]⟩) : EvK W (tTup (tCons ta (tCons tb tNil))) Γ k := fun σ H Q E c =>
  h σ H _ E fun x H1 a e1 d1 h1 => h1 σ H1 _ (E.ext e1) fun y H2 b e2 d2 z => ⟨by show 2 ≤ sizeLine; decide, fun p hp => by
    have e3 := Ext.new (o := .tup [x, y]) e2.ok hp
    exact c _ _ ⟨[a, b]⟩ ((e1.trans e2).trans e3) ⟨p, [x, y], rfl, Tq.new (fresh_mu e2.ok hp) upd_same, .cons (Rep.mono (e2.trans e3).keep d1) (.cons (Rep.mono e3.keep d2) .nil)⟩ z⟩
theorem dl_drop {α : Type} {f : V → α → Prop} : ∀ {vs : List V} {as : List α} (n : Nat), Dl f vs as → Dl f (vs.drop n) (as.drop n)
  | _, _, 0, h => h
  | _, _, n + 1, .nil => .nil
  | _, _, n + 1, .cons _ y => dl_drop n y
theorem cutV_from1 (xs : List V) : cutV xs (some 1) none = xs.drop 1 := by
  unfold cutV
  have e1 : HT.sIx xs.length xs.length none = xs.length := rfl
  have e2 : (HT.sIx xs.length 0 (some 1) = 1 ∧ 1 ≤ xs.length) ∨ (xs.length = 0 ∧ HT.sIx xs.length 0 (some 1) = 0) := by
    cases xs with
    | nil => exact .inr ⟨rfl, rfl⟩
    | cons x r =>
      refine .inl ⟨?_, by simp⟩
      unfold HT.sIx
      simp
  rcases e2 with ⟨e, hl⟩ | ⟨hl, e⟩
  · rw [e, e1]
    exact List.take_of_length_le (by rw [List.length_drop]; omega)
  · have : xs = [] := List.length_eq_zero_iff.mp hl
    subst this
    rfl
/-- xs[1:] -/
theorem ev_from1 {α : Type} {rα : Rep α} {k : List α → Prop} (hK : W.B.K = K) (h : EvK W te Γ fun as : List α => k (as.drop 1)) : EvK W (tSl (rSlL K) te (tPart (tC (.int 1))) tNoPart) Γ k := by
  subst hK
  refine fun σ H Q G c => h σ H _ G fun v H1 as e1 ⟨p, vs, hv, hp, hd⟩ z => ?_
  refine ⟨1, rfl, p, vs, hv, hp.sq, fun q hq => ?_⟩
  rw [cutV_from1]
  have e2 := Ext.new (o := .lst (vs.drop 1)) e1.ok hq
  exact c (.ref q) _ _ (e1.trans e2) ⟨q, _, rfl, Lq.new (fresh_mu e1.ok hq) upd_same, (dl_drop 1 hd).imp fun _ _ d => Rep.mono e2.keep d⟩ z
/-- a turn whose item came just now -/
theorem lc_turnN {α β : Type} {rα : Rep α} {rβ : Rep β} {vs : List Nat} {D : Addr} {H1 : Hp} {n : H1 D = none} {o1 : W.ok H1} {w1 : W.wish H1} {σ : L2.St} {H' : Hp} {x : V} {a : α} {acc : List V} {bs : List β} {I : List β → Prop} {P : Hp → Prop}
    (t : LcTurn (W.plus D acc H1 n o1 w1) g tt te vs Γ a (I bs) fun y : β => I (bs ++ [y])) (G : GOk W H1 σ Γ) (e : Ext W H1 H') (hD : H' D = some (.lst acc)) (hb : Dl (den (W.toWc.plus D) H') acc bs) (da : den (W.toWc.plus D) H' x a) (hz : acc.length < 100000)
    (fin : ∀ H2 acc2 bs2, Ext W H1 H2 → H2 D = some (.lst acc2) → Dl (den (W.toWc.plus D) H2) acc2 bs2 → acc2.length ≤ acc.length + 1 → I bs2 → P H2) :
    g x (wipe σ vs) H' fun σ2 H2 => wipe σ2 vs = wipe σ vs ∧ tt σ2 H2 fun b H3 => if b = true then te σ2 H3 fun y H4 => ∃ acc, H4 D = some (.lst acc) ∧ acc.length < sizeLine ∧ P (upd H4 D (.lst (acc ++ [y]))) else P H3 := by
  obtain ⟨js, hjs, tj⟩ := t
  have nm : ¬ W.mu D := fresh_mu o1 n
  have kp : Kp (W.toWc.plus D) H1 H' := fun b o m z => e.keep b o (fun z => m (.inl z)) z
  have G2 : GOk (W.plus D acc H1 n o1 w1) H' σ Γ := ⟨⟨e.ok, hD⟩, fun b o m z => e.keep b o m z, fun i t h => by
    obtain ⟨v, h1, h2⟩ := G.at_ i t h
    exact ⟨v, h1, Ty.mono kp (t.r.grow D n h2)⟩, G.len⟩
  have un : ∀ {H2 : Hp}, Ext (W.plus D acc H1 n o1 w1) H' H2 → Ext W H1 H2 := fun e2 => ⟨fun b o m z => by
    have hne : b ≠ D := fun q => by rw [q, n] at z; cases z
    exact e2.keep b o (fun q => q.elim m hne) (e.keep b o m z), e2.ok.1⟩
  refine tj (wipe σ vs) H' x _ (G2.wipe vs) da fun σ2 Γ2 G3 m2 q2 => ⟨wipe_same m2 (js_in hjs), ?_⟩
  refine q2 σ2 H' _ G3 fun H3 b e3 ⟨hy, hn⟩ => ?_
  have hb3 := hb.imp fun _ _ d => Rep.mono (W := W.toWc.plus D) e3.keep d
  cases b with
  | false =>
    show P H3
    exact fin H3 acc bs (un e3) e3.ok.2 hb3 (Nat.le_succ _) (hn rfl)
  | true =>
    show te σ2 H3 _
    refine hy rfl σ2 H3 _ (G3.ext e3) fun y H4 b4 e4 d4 q4 => ⟨acc, e4.ok.2, Nat.lt_of_lt_of_le hz (by decide), ?_⟩
    have e5 := un (e3.trans e4)
    have k5 : Kp (W.toWc.plus D) H4 (upd H4 D (.lst (acc ++ [y]))) := kp_upd
    refine fin _ (acc ++ [y]) (bs ++ [b4]) ⟨fun b o m z => ?_, W.st _ _ _ e5.ok nm⟩ upd_same (Dl.append (hb3.imp fun _ _ d => Rep.mono k5 (Rep.mono (W := W.toWc.plus D) e4.keep d)) (.cons (Rep.mono k5 d4) .nil)) (by rw [List.length_append]; exact Nat.le_refl _) q4
    have hne : b ≠ D := fun q => by rw [q, n] at z; cases z
    rw [upd_ne hne]
    exact e5.keep b o m z
/-- [te for g in zip(xs, ys) if tt] -/
theorem evF_lcZ {α β γ : Type} {rα : Rep α} {rβ : Rep β} {rγ : Rep γ} {vs : List Nat} {k : List γ → Prop} (hK : W.B.K = K)
    (h : EvK W ta Γ fun as : List α => EvK W tb Γ fun bs : List β => (as.zip bs).length ≤ 100000 ∧ ∃ I : Nat → List γ → Prop, I 0 [] ∧
      (∀ W', Sub W W' → ∀ (i : Nat) (p : α × β) (cs : List γ), (as.zip bs)[i]? = some p → I i cs → LcTurn W' g tt te vs Γ p (I (i + 1) cs) fun y : γ => I (i + 1) (cs ++ [y])) ∧ ∀ cs, I (as.zip bs).length cs → k cs) :
    EvF W (tLc (iZip K (tCons ta (tCons tb tNil))) g tt te vs) Γ k := by
  subst hK
  refine fun σ H Q E c => h σ H _ E fun va H0 as e0 da h1 => h1 σ H0 _ (E.ext e0) fun vb H1 bs e1 ⟨p2, ys, hv2, hp2, hd2⟩ ⟨hl, I, h0, hs, hf⟩ => ?_
  obtain ⟨p1, xs, hv1, hp1, hd1⟩ := Rep.mono e1.keep da
  refine ⟨p1, p2, xs, ys, by rw [hv1, hv2], hp1.sq, hp2.sq, fun D n => ?_⟩
  have G1 := (E.ext e0).ext e1
  have eD : Ext W H1 (upd H1 D (.lst [])) := Ext.new e1.ok n
  have hzl : (as.zip bs).length = min xs.length ys.length := by rw [List.length_zip, hd1.length, hd2.length]
  refine turns (J := Itz W.B.K p1 p2) (n := min xs.length ys.length) (fun i H' => Ext W H1 H' ∧ ∃ acc cs, H' D = some (.lst acc) ∧ Dl (den (W.toWc.plus D) H') acc cs ∧ acc.length ≤ i ∧ I i cs) ⟨eD, [], [], upd_same, .nil, Nat.le_refl _, h0⟩ ?_ ?_ ?_ ?_
  · rintro i H' hi ⟨e, _⟩
    exact ⟨xs, ys, xs[i], ys[i], (hp1.mono e.keep).sq, (hp2.mono e.keep).sq, List.getElem?_eq_getElem (by omega), List.getElem?_eq_getElem (by omega)⟩
  · rintro H' ⟨e, _⟩
    exact ⟨xs, ys, (hp1.mono e.keep).sq, (hp2.mono e.keep).sq, by omega⟩
  · rintro i H' v H'' hi ⟨e, acc, cs, hD, hb, ha, q⟩ ⟨t, x, y, rfl, ht, rfl, hx, hy⟩
    have hx := hx xs (hp1.mono e.keep).sq
    have hy := hy ys (hp2.mono e.keep).sq
    obtain ⟨a, ea, dx⟩ := hd1.at hx
    obtain ⟨b, eb, dy⟩ := hd2.at hy
    have e2 : Ext W H' (upd H' t (.tup [x, y])) := Ext.new e.ok ht
    have hDt : D ≠ t := ne_of_none hD ht
    have nmt : ¬ (W.toWc.plus D).mu t := fun z => z.elim (fresh_mu e.ok ht) fun z => hDt z.symm
    have kq : Kp (W.toWc.plus D) H' (upd H' t (.tup [x, y])) := fun b o m z => by rw [upd_ne (ne_of_none z ht)]; exact z
    have kp : Kp (W.toWc.plus D) H1 (upd H' t (.tup [x, y])) := fun b o m z => (e.trans e2).keep b o (fun z => m (.inl z)) z
    have hpz : (as.zip bs)[i]? = some (a, b) := by rw [List.getElem?_zip_eq_some]; exact ⟨ea, eb⟩
    exact lc_turnN (I := I (i + 1)) (P := fun H' => Ext W H1 H' ∧ ∃ acc cs, H' D = some (.lst acc) ∧ Dl (den (W.toWc.plus D) H') acc cs ∧ acc.length ≤ i + 1 ∧ I (i + 1) cs) (hs _ (Sub.plus (n := n) (o1 := e1.ok) (w1 := G1.wish)) i (a, b) cs hpz q) G1 (e.trans e2) (by rw [upd_ne hDt]; exact hD) (hb.imp fun _ _ d => Rep.mono kq d)
      ⟨t, x, y, rfl, ⟨nmt, upd_same⟩, Rep.mono kp (Rep.grow D n dx), Rep.mono kp (Rep.grow D n dy)⟩ (by omega) fun H2 acc2 bs2 e3 hD2 hb2 hl2 q2 => ⟨e3, acc2, bs2, hD2, hb2, by omega, q2⟩
  · rintro H' ⟨e, acc, cs, hD, hb, ha, q⟩
    rw [← hzl] at q
    exact c D H' acc cs (fresh_back (e0.trans e1).ok (e0.trans e1) n) ((e0.trans e1).trans e) hD hb (hf cs q)
theorem evF_lcZF {α β γ : Type} [rα : Rep α] [rβ : Rep β] [rγ : Rep γ] {vs : List Nat} {k : List γ → Prop} (p : α × β → Bool) (f : α × β → γ) (hK : W.B.K = K)
    (h : EvK W ta Γ fun as : List α => EvK W tb Γ fun bs : List β => (as.zip bs).length ≤ 100000 ∧ (∀ W', Sub W W' → ∀ q ∈ as.zip bs, LcTurn W' g tt te vs Γ q (p q = false) fun y : γ => p q = true ∧ y = f q) ∧ k (((as.zip bs).filter p).map f)) :
    EvF W (tLc (iZip K (tCons ta (tCons tb tNil))) g tt te vs) Γ k := evF_lcZ hK (h.imp fun as h => h.imp fun bs ⟨hl, hs, q⟩ => ⟨hl, fun i cs => cs = (((as.zip bs).take i).filter p).map f, by simp, lcF_turns p f hs, fun cs e => by rw [e, List.take_length]; exact q⟩)
end
end G
set_option Elab.async false
set_option linter.all false
namespace G
open PySem
/-! ### mathematics of sharing -/
def inS (x : Int) (s : Stc) : Bool := decide (s.lo ≤ x) && decide (x ≤ s.hi)
/-- how many of the stretches have the level -/
def depS (ss : List Stc) (x : Int) : Int := ((ss.filter (inS x)).length : Int)
def cut2 (s : Stc) : List Int := [s.lo, s.hi + 1]
def rowsF (ss : List Stc) (ns : List Int) : List (T3 Int Int Int) := (ns.zip (ns.drop 1)).map fun q => ⟨q.1, q.2 - 1, depS ss q.1⟩
/-- the rows that are deep enough -/
def deepF (ss : List Stc) (ns : List Int) (need : Int) : List (Int × Int) := ((rowsF ss ns).filter fun r => decide (need ≤ r.c)).map fun r => (r.a, r.b)
theorem inS_iff {x : Int} {s : Stc} : inS x s = true ↔ s.lo ≤ x ∧ x ≤ s.hi := by
  unfold inS
  rw [Bool.and_eq_true, decide_eq_true_iff, decide_eq_true_iff]
theorem depS_nonneg (ss : List Stc) (x : Int) : 0 ≤ depS ss x := Int.natCast_nonneg _
theorem depS_le (ss : List Stc) (x : Int) : depS ss x ≤ ss.length := by
  have := List.length_filter_le (inS x) ss
  unfold depS
  omega
theorem filter_le {α : Type} {p q : α → Bool} : ∀ {l : List α}, (∀ a ∈ l, p a = true → q a = true) → (l.filter p).length ≤ (l.filter q).length
  | [], _ => Nat.le_refl _
  | a :: r, h => by
    have ih := filter_le (p := p) (q := q) fun b hb => h b (List.mem_cons_of_mem a hb)
    cases hp : p a with
    | false =>
      rw [List.filter_cons_of_neg (by rw [hp]; decide)]
      cases hq : q a with
      | false => rw [List.filter_cons_of_neg (by rw [hq]; decide)]; exact ih
      | true => rw [List.filter_cons_of_pos hq, List.length_cons]; omega
    | true =>
      rw [List.filter_cons_of_pos hp, List.filter_cons_of_pos (h a List.mem_cons_self hp), List.length_cons, List.length_cons]
      omega
/-- deeper there than here: a stretch has that one and not this one -/
theorem depS_more {ss : List Stc} {a b : Int} (h : depS ss a < depS ss b) : ∃ s ∈ ss, inS b s = true ∧ inS a s = false := by
  apply Classical.byContradiction
  intro hn
  have : (ss.filter (inS b)).length ≤ (ss.filter (inS a)).length := filter_le fun s hs hb => by
    cases q : inS a s with
    | true => rfl
    | false => exact absurd ⟨s, hs, hb, q⟩ hn
  unfold depS at h
  omega
theorem depS_congr {ss : List Stc} {a b : Int} (h : ∀ s ∈ ss, inS a s = inS b s) : depS ss a = depS ss b := by
  unfold depS
  rw [List.filter_congr h]
theorem depS_pos {ss : List Stc} {x : Int} (h : 1 ≤ depS ss x) : ∃ s ∈ ss, inS x s = true := by
  have : 0 < (ss.filter (inS x)).length := by unfold depS at h; omega
  obtain ⟨s, hs⟩ := List.exists_mem_of_length_pos this
  exact ⟨s, (List.mem_filter.mp hs).1, (List.mem_filter.mp hs).2⟩
/-- neighbours in an ascending list: nothing between -/
theorem zip_next : ∀ {ns : List Int}, ns.Pairwise (· < ·) → ∀ {p : Int × Int}, p ∈ ns.zip (ns.drop 1) → p.1 < p.2 ∧ p.1 ∈ ns ∧ p.2 ∈ ns ∧ ∀ k ∈ ns, k ≤ p.1 ∨ p.2 ≤ k
  | [], _, p, h => by simp at h
  | [a], _, p, h => by simp at h
  | a :: b :: r, hp, p, h => by
    obtain ⟨h1, h2⟩ := List.pairwise_cons.mp hp
    have h' : p = (a, b) ∨ p ∈ (b :: r).zip r := by
      have : p ∈ (a, b) :: (b :: r).zip r := by simpa using h
      exact List.mem_cons.mp this
    rcases h' with rfl | h'
    · refine ⟨h1 b List.mem_cons_self, List.mem_cons_self, List.mem_cons_of_mem _ List.mem_cons_self, fun k hk => ?_⟩
      rcases List.mem_cons.mp hk with rfl | hk
      · exact .inl (Int.le_refl _)
      · rcases List.mem_cons.mp hk with rfl | hk
        · exact .inr (Int.le_refl _)
        · have := (List.pairwise_cons.mp h2).1 k hk
          exact .inr (by show b ≤ k; omega)
    · obtain ⟨q1, q2, q3, q4⟩ := zip_next h2 (p := p) (by simpa using h')
      refine ⟨q1, List.mem_cons_of_mem _ q2, List.mem_cons_of_mem _ q3, fun k hk => ?_⟩
      rcases List.mem_cons.mp hk with rfl | hk
      · have := h1 _ q2
        exact .inl (by omega)
      · exact q4 k hk
/-- a level between two members lies in a row -/
theorem zip_find : ∀ {ns : List Int}, ns.Pairwise (· < ·) → ∀ {a b x : Int}, a ∈ ns → b ∈ ns → a ≤ x → x < b → ∃ p ∈ ns.zip (ns.drop 1), p.1 ≤ x ∧ x < p.2
  | [], _, a, b, x, h, _, _, _ => nomatch h
  | [c], _, a, b, x, h1, h2, h3, h4 => by
    rw [List.mem_singleton] at h1 h2
    omega
  | c :: d :: r, hp, a, b, x, h1, h2, h3, h4 => by
    obtain ⟨q1, q2⟩ := List.pairwise_cons.mp hp
    by_cases hd : d ≤ x
    · have hb : b ∈ d :: r := by
        rcases List.mem_cons.mp h2 with rfl | h2
        · have := q1 d List.mem_cons_self; omega
        · exact h2
      obtain ⟨p, hp', hx⟩ := zip_find q2 (a := d) (b := b) (x := x) List.mem_cons_self hb hd h4
      refine ⟨p, ?_, hx⟩
      have : p ∈ (c, d) :: (d :: r).zip r := List.mem_cons_of_mem _ (by simpa using hp')
      simpa using this
    · refine ⟨(c, d), by simp, ?_, by show x < d; omega⟩
      show c ≤ x
      rcases List.mem_cons.mp h1 with rfl | h1
      · exact h3
      · have := q1 a h1
        omega
section
variable {ss : List Stc} {ns : List Int} {need : Int}
theorem cut_lo (hm : ∀ j, j ∈ ns ↔ j ∈ ss.flatMap cut2) {s : Stc} (hs : s ∈ ss) : s.lo ∈ ns ∧ s.hi + 1 ∈ ns := by
  constructor
  · exact (hm _).mpr (List.mem_flatMap.mpr ⟨s, hs, by simp [cut2]⟩)
  · exact (hm _).mpr (List.mem_flatMap.mpr ⟨s, hs, by simp [cut2]⟩)
/-- within a row the depth is that of its low end -/
theorem row_depth (hp : ns.Pairwise (· < ·)) (hm : ∀ j, j ∈ ns ↔ j ∈ ss.flatMap cut2) {p : Int × Int} (h : p ∈ ns.zip (ns.drop 1)) {x : Int} (h1 : p.1 ≤ x) (h2 : x < p.2) : depS ss x = depS ss p.1 := by
  obtain ⟨_, _, _, hg⟩ := zip_next hp h
  refine depS_congr fun s hs => ?_
  obtain ⟨c1, c2⟩ := cut_lo hm hs
  rw [Bool.eq_iff_iff, inS_iff, inS_iff]
  have g1 := hg _ c1
  have g2 := hg _ c2
  omega
theorem deepF_ok (hp : ns.Pairwise (· < ·)) : ∀ q ∈ deepF ss ns need, q.1 ≤ q.2 := by
  intro q hq
  unfold deepF rowsF at hq
  obtain ⟨r, hr, rfl⟩ := List.mem_map.mp hq
  obtain ⟨p, hpz, rfl⟩ := List.mem_map.mp (List.mem_filter.mp hr).1
  have := (zip_next hp hpz).1
  show p.1 ≤ p.2 - 1
  omega
theorem deepF_mem (hp : ns.Pairwise (· < ·)) (hm : ∀ j, j ∈ ns ↔ j ∈ ss.flatMap cut2) (hn : 1 ≤ need) (x : Int) : memP x (deepF ss ns need) ↔ need ≤ depS ss x := by
  constructor
  · rintro ⟨q, hq, h1, h2⟩
    unfold deepF rowsF at hq
    obtain ⟨r, hr, rfl⟩ := List.mem_map.mp hq
    obtain ⟨hr1, hr2⟩ := List.mem_filter.mp hr
    obtain ⟨p, hpz, rfl⟩ := List.mem_map.mp hr1
    have h1' : p.1 ≤ x := h1
    have h2' : x ≤ p.2 - 1 := h2
    rw [row_depth hp hm hpz h1' (by omega)]
    exact of_decide_eq_true hr2
  · intro h
    obtain ⟨s, hs, hx⟩ := depS_pos (Int.le_trans hn h)
    obtain ⟨hx1, hx2⟩ := inS_iff.mp hx
    obtain ⟨c1, c2⟩ := cut_lo hm hs
    obtain ⟨p, hpz, h1, h2⟩ := zip_find hp c1 c2 hx1 (by omega : x < s.hi + 1)
    refine ⟨(p.1, p.2 - 1), ?_, h1, by show x ≤ p.2 - 1; omega⟩
    unfold deepF rowsF
    refine List.mem_map.mpr ⟨⟨p.1, p.2 - 1, depS ss p.1⟩, List.mem_filter.mpr ⟨List.mem_map.mpr ⟨p, hpz, rfl⟩, ?_⟩, rfl⟩
    rw [← row_depth hp hm hpz h1 h2]
    exact decide_eq_true h
end
/-- what the shared levels are -/
def ShOk (ss : List Stc) (need : Int) (L : List (Int × Int)) : Prop := NF L ∧ ∀ x, memP x L ↔ need ≤ depS ss x
theorem shOk_of {ss : List Stc} {ns : List Int} {need : Int} (hp : ns.Pairwise (· < ·)) (hm : ∀ j, j ∈ ns ↔ j ∈ ss.flatMap cut2) (hn : 1 ≤ need) : ShOk ss need (unionF (deepF ss ns need)) :=
  ⟨unionF_nf (deepF_ok hp), fun x => (unionF_mem (deepF_ok hp) x).trans (deepF_mem hp hm hn x)⟩
theorem nf_gap {L : List (Int × Int)} (h : NF L) {q : Int × Int} (hq : q ∈ L) : ¬ memP (q.1 - 1) L ∧ ¬ memP (q.2 + 1) L := by
  have key : ∀ {L : List (Int × Int)}, NF L → ∀ {q r : Int × Int}, q ∈ L → r ∈ L → q = r ∨ q.2 + 1 < r.1 ∨ r.2 + 1 < q.1 := by
    intro L
    induction L with
    | nil => intro _ q r hq; exact nomatch hq
    | cons p t ih =>
      intro h q r hq hr
      obtain ⟨_, ht, hg⟩ := nf_cons h
      rcases List.mem_cons.mp hq with eq | hq1
      · rcases List.mem_cons.mp hr with er | hr1
        · exact .inl (eq.trans er.symm)
        · rw [eq]; exact .inr (.inl (hg r hr1))
      · rcases List.mem_cons.mp hr with er | hr1
        · rw [er]; exact .inr (.inr (hg q hq1))
        · exact ih ht hq1 hr1
  have ho := h.1 q hq
  constructor
  · rintro ⟨r, hr, h1, h2⟩
    have hr0 := h.1 r hr
    rcases key h hq hr with rfl | e | e <;> omega
  · rintro ⟨r, hr, h1, h2⟩
    have hr0 := h.1 r hr
    rcases key h hq hr with rfl | e | e <;> omega
theorem shOk_ends {ss : List Stc} {need : Int} {L : List (Int × Int)} (h : ShOk ss need L) {q : Int × Int} (hq : q ∈ L) : (∃ s ∈ ss, s.lo = q.1) ∧ ∃ s ∈ ss, s.hi = q.2 := by
  have ho := h.1.1 q hq
  obtain ⟨g1, g2⟩ := nf_gap h.1 hq
  have m1 := (h.2 q.1).mp ⟨q, hq, Int.le_refl _, ho⟩
  have m2 := (h.2 q.2).mp ⟨q, hq, ho, Int.le_refl _⟩
  rw [h.2] at g1 g2
  obtain ⟨s, hs, a1, a2⟩ := depS_more (ss := ss) (a := q.1 - 1) (b := q.1) (by omega)
  obtain ⟨t, ht, b1, b2⟩ := depS_more (ss := ss) (a := q.2 + 1) (b := q.2) (by omega)
  have a1 := inS_iff.mp a1
  have b1 := inS_iff.mp b1
  have a2 : ¬ (s.lo ≤ q.1 - 1 ∧ q.1 - 1 ≤ s.hi) := fun z => by rw [inS_iff.mpr z] at a2; cases a2
  have b2 : ¬ (t.lo ≤ q.2 + 1 ∧ q.2 + 1 ≤ t.hi) := fun z => by rw [inS_iff.mpr z] at b2; cases b2
  exact ⟨⟨s, hs, by omega⟩, ⟨t, ht, by omega⟩⟩
theorem shOk_none {ss : List Stc} {need : Int} {L : List (Int × Int)} (h : ShOk ss need L) (hn : (ss.length : Int) < need) : L = [] := by
  cases L with
  | nil => rfl
  | cons p t =>
    have := (h.2 p.1).mp (nf_first h.1)
    have := depS_le ss p.1
    omega
end G
set_option Elab.async false
set_option linter.all false
set_option maxRecDepth 100000
set_option maxHeartbeats 2000000
namespace G
open PySem PySem.Spec PyProof.Rows L2 StX
instance {α : Type} [Rep α] : PyTy (List α) "list" := ⟨fun ⟨p, vs, hv, s, _⟩ => by subst hv; exact .base (.lst s.2)⟩
instance {α β : Type} [Rep α] [Rep β] : PyTy (α × β) "tuple" := ⟨fun ⟨p, x, y, hv, s, _⟩ => by subst hv; exact .base (.tup s.2)⟩
section
variable {W : Wd} {Γ : Gam} {ta tb te : TE} {t : TS} {g : TG} {K : PySem.W.Frag}
/-- the length of a pair -/
theorem ev_len2 {α β : Type} {rα : Rep α} {rβ : Rep β} {k : Int → Prop} (hK : W.B.K = K) (h : EvK W te Γ fun _ : α × β => k 2) : EvK W (tCB (fun xs H Q => ∃ p ys, xs = [.ref p] ∧ (SqL K H p ys ∨ SqT K H p ys) ∧ Q (.int ys.length) H) (tCons te tNil)) Γ k := by
  subst hK
  exact fun σ H Q E c => h σ H _ E fun v H1 as e1 ⟨p, x, y, hv, s, _⟩ z => ⟨p, [x, y], by rw [hv], .inr s.sq, c _ H1 2 e1 rfl z⟩
/-- for x in range(lo, hi) -/
theorem sx_forR2 {R : Po} (h : EvK W ta Γ fun lo : Int => EvK W tb Γ fun hi : Int => (-(2 ^ 62) ≤ lo ∧ lo < 2 ^ 62 ∧ -(2 ^ 62) ≤ hi ∧ hi < 2 ^ 62) ∧ ∃ I : Nat → Gam → Prop, I 0 Γ ∧
      (∀ (i : Nat) Γ', i < (hi - lo).toNat → I i Γ' → Tg W g Γ' (lo + (i : Int)) fun Γ1 => Sx W t Γ1 { R with nx := I (i + 1), ct := I (i + 1), bk := R.nx }) ∧ ∀ Γ', I (hi - lo).toNat Γ' → R.nx Γ') : Sx W (tFor (iRng2 (tCons ta (tCons tb tNil))) g t) Γ R := by
  refine fun D σ H E O => h σ H _ E fun va H0 lo e0 ha h1 => h1 σ H0 _ (E.ext e0) fun vb H1 hi e1 hb ⟨⟨b1, b2, b3, b4⟩, I, h0, hs, hl⟩ => ?_
  have ha' : va = V.int lo := ha
  have hb' : vb = V.int hi := hb
  subst ha' hb'
  refine ⟨lo, hi, rfl, ?_⟩
  have key := for_range (lo := lo) (n := (hi - lo).toNat) (g := g) (tb := t) (D := D) (σ := σ) (H := H1) (fun i σ' H' => Ext W H1 H' ∧ ∃ Γ', GOk W H' σ' Γ' ∧ I i Γ') ⟨Ext.refl e1.ok, Γ, (E.ext e0).ext e1, h0⟩ (by
    rintro i σ' H' hi' ⟨e, Γ', G, q⟩
    obtain ⟨js, hj⟩ := hs i Γ' hi' q
    refine hj σ' H' _ _ G rfl fun σ2 Γ2 G2 _ q2 => ?_
    have et := (e0.trans e1).trans e
    exact q2 _ σ2 H' G2 ⟨fun σ3 H3 Γ3 e3 G3 q3 => ⟨e.trans e3, Γ3, G3, q3⟩, fun v3 H3 t3 e3 d3 q3 => O.rt v3 H3 t3 (et.trans e3) d3 q3,
      fun σ3 H3 Γ3 e3 G3 q3 => O.nx σ3 H3 Γ3 (et.trans e3) G3 q3, fun σ3 H3 Γ3 e3 G3 q3 => ⟨e.trans e3, Γ3, G3, q3⟩⟩) (by
    rintro σ' H' ⟨e, Γ', G, q⟩
    exact O.nx σ' H' Γ' ((e0.trans e1).trans e) G (hl Γ' q))
  exact ⟨⟨b1, b2, b3, b4⟩, key⟩
/-- x in a list of ints -/
theorem inV_ints (x : Int) (as : List Int) : inV (V.int x) (as.map V.int) = decide (x ∈ as) := by
  have h : inV (V.int x) (as.map V.int) = as.any fun a => a == x := by
    unfold inV
    rw [List.any_map]
    rfl
  rw [h, Bool.eq_iff_iff, List.any_eq_true, decide_eq_true_iff]
  exact ⟨fun ⟨a, ha, e⟩ => by rw [← eq_of_beq e]; exact ha, fun hx => ⟨x, hx, beq_self_eq_true x⟩⟩
theorem flat_ints (as : List Int) : (as.map V.int).all flatV = true := by
  rw [List.all_eq_true]
  intro v hv
  obtain ⟨a, _, rfl⟩ := List.mem_map.mp hv
  rfl
theorem ev_inI {k : Bool → Prop} (hK : W.B.K = K) (h : EvK W ta Γ fun x : Int => EvK W tb Γ fun as : List Int => k (decide (x ∈ as))) : EvK W (tOp (rIn K false) ta tb) Γ k := by
  subst hK
  refine ev_two (h.imp fun x hx => hx.imp fun as z v u H Q o dx ⟨p, vs, hu, hp, hd⟩ c => ?_)
  have dx' : v = V.int x := dx
  subst dx' hu
  have e := Dl.ints hd
  refine ⟨p, vs, rfl, .inl hp.sq, rfl, by rw [e]; exact flat_ints as, c _ H _ (Ext.refl o) ?_ z⟩
  show V.bl (inV (V.int x) vs) = _
  rw [e, inV_ints]
theorem ev_notInI {k : Bool → Prop} (hK : W.B.K = K) (h : EvK W ta Γ fun x : Int => EvK W tb Γ fun as : List Int => k (!decide (x ∈ as))) : EvK W (tOp (rIn K true) ta tb) Γ k := by
  subst hK
  refine ev_two (h.imp fun x hx => hx.imp fun as z v u H Q o dx ⟨p, vs, hu, hp, hd⟩ c => ?_)
  have dx' : v = V.int x := dx
  subst dx' hu
  have e := Dl.ints hd
  refine ⟨p, vs, rfl, .inl hp.sq, rfl, by rw [e]; exact flat_ints as, c _ H _ (Ext.refl o) ?_ z⟩
  show V.bl (!inV (V.int x) vs) = _
  rw [e, inV_ints]
end
/-! ### neighbours in normal form -/
theorem nf_next {ps : List (Int × Int)} (h : NF ps) {i : Nat} {a b : Int × Int} (ha : ps[i]? = some a) (hb : ps[i + 1]? = some b) : a.2 + 2 ≤ b.1 := by
  obtain ⟨h1, e1⟩ := List.getElem?_eq_some_iff.mp ha
  obtain ⟨h2, e2⟩ := List.getElem?_eq_some_iff.mp hb
  have := List.pairwise_iff_getElem.mp h.2 i (i + 1) h1 h2 (by omega)
  rw [e1, e2] at this
  omega
end G
set_option Elab.async false
set_option linter.all false
set_option maxRecDepth 100000
set_option maxHeartbeats 2000000
namespace G
open PySem PySem.Spec PyProof.Rows L2 StX
section
variable {W : Wd} {Γ : Gam} {ta tb te : TE} {K : PySem.W.Frag}
/-- the third item of three -/
theorem ev_ixT3c {α β γ : Type} {rα : Rep α} {rβ : Rep β} {rγ : Rep γ} {k : γ → Prop} (hK : W.B.K = K) (h : EvK W ta Γ fun p : T3 α β γ => k p.c) : EvK W (tOp (rIxT K) ta (tC (.int 2))) Γ k := by
  subst hK
  refine fun σ H Q E c => h σ H _ E fun v H1 a e1 ⟨p, x, y, z, hv, s, d1, d2, d3⟩ q => ?_
  exact ⟨p, _, 2, z, hv, rfl, s.sq, rfl, c _ H1 _ e1 d3 q⟩
end
/-! ### the greatest depth -/
/-- m is the greatest depth -/
def MaxD (ss : List Stc) (m : Int) : Prop := 1 ≤ m ∧ (∃ x, depS ss x = m) ∧ ∀ x, depS ss x ≤ m
theorem MaxD.uniq {ss : List Stc} {m n : Int} (h : MaxD ss m) (g : MaxD ss n) : m = n := by
  obtain ⟨x, hx⟩ := h.2.1
  obtain ⟨y, hy⟩ := g.2.1
  have := h.2.2 y
  have := g.2.2 x
  omega
theorem rows_mem {ss : List Stc} {ns : List Int} (hp : ns.Pairwise (· < ·)) (hm : ∀ j, j ∈ ns ↔ j ∈ ss.flatMap cut2) {s : Stc} (hs : s ∈ ss) {x : Int} (hx : inS x s = true) : depS ss x ∈ (rowsF ss ns).map fun r => r.c := by
  obtain ⟨h1, h2⟩ := inS_iff.mp hx
  obtain ⟨c1, c2⟩ := cut_lo hm hs
  obtain ⟨p, hpz, g1, g2⟩ := zip_find hp c1 c2 h1 (by omega : x < s.hi + 1)
  unfold rowsF
  rw [List.map_map]
  exact List.mem_map.mpr ⟨p, hpz, (row_depth hp hm hpz g1 g2).symm⟩
theorem maxD_of {ss : List Stc} {ns : List Int} (hp : ns.Pairwise (· < ·)) (hm : ∀ j, j ∈ ns ↔ j ∈ ss.flatMap cut2) (ho : ∀ s ∈ ss, s.lo ≤ s.hi) (hn : ss ≠ []) :
    0 < ((rowsF ss ns).map fun r => r.c).length ∧ ∀ m, m ∈ ((rowsF ss ns).map fun r => r.c) → (∀ y, y ∈ ((rowsF ss ns).map fun r => r.c) → y ≤ m) → MaxD ss m := by
  obtain ⟨s, hs⟩ := List.exists_mem_of_ne_nil ss hn
  have hi : inS s.lo s = true := inS_iff.mpr ⟨Int.le_refl _, ho s hs⟩
  have h0 := rows_mem hp hm hs hi
  have h1 : 1 ≤ depS ss s.lo := by
    have : 0 < (ss.filter (inS s.lo)).length := List.length_pos_of_mem (List.mem_filter.mpr ⟨hs, hi⟩)
    unfold depS
    omega
  refine ⟨List.length_pos_of_mem h0, fun m hmm hle => ⟨Int.le_trans h1 (hle _ h0), ?_, fun x => ?_⟩⟩
  · obtain ⟨r, hr, rfl⟩ := List.mem_map.mp hmm
    unfold rowsF at hr
    obtain ⟨p, hpz, rfl⟩ := List.mem_map.mp hr
    exact ⟨p.1, rfl⟩
  · by_cases hx : 1 ≤ depS ss x
    · obtain ⟨t, ht, hin⟩ := depS_pos hx
      exact hle _ (rows_mem hp hm ht hin)
    · have := hle _ h0
      omega
/-- the greatest depth is that of the low end of some stretch -/
theorem maxD_low {ss : List Stc} {m : Int} {L : List (Int × Int)} (h : MaxD ss m) (hL : ShOk ss m L) : ∃ s ∈ ss, depS ss s.lo = m := by
  obtain ⟨x, hx⟩ := h.2.1
  obtain ⟨q, hq, h1, h2⟩ := (hL.2 x).mpr (by omega)
  obtain ⟨⟨s, hs, e⟩, _⟩ := shOk_ends hL hq
  have g : m ≤ depS ss q.1 := (hL.2 q.1).mp ⟨q, hq, Int.le_refl _, hL.1.1 q hq⟩
  have := h.2.2 q.1
  exact ⟨s, hs, by rw [e]; omega⟩
end G
set_option Elab.async false
set_option linter.all false
set_option maxRecDepth 100000
set_option maxHeartbeats 2000000
namespace G
open PySem PySem.Spec PyProof.Rows L2 StX
/-! ### a list comprehension with two clauses -/
/-- one turn of the outer clause: the inner source's items are b, each gives its value -/
def Lc2Turn {α β γ : Type} [Rep α] [Rep β] [Rep γ] (W0 W : Wd) (g : TG) (tl2 : TE) (g2 : TG) (te : TE) (vs vs1 : List Nat) (Γ : Gam) (a : α) (f : List γ) : Prop :=
  ∃ js : List Nat, (js.all fun j => vs.contains j) = true ∧ Tj W js g (wipeE Γ vs) a fun Γ1 => EvK W tl2 Γ1 fun bs : List β => ∃ h : β → γ, bs.map h = f ∧
    ∀ W', Sub W0 W' → ∀ b ∈ bs, ∃ js2 : List Nat, (js2.all fun j => vs1.contains j) = true ∧ Tj W' js2 g2 (wipeE Γ1 vs1) b fun Γ2 => EvK W' te Γ2 fun y : γ => y = h b
section
variable {W : Wd} {Γ : Gam} {ta : TA} {te tb tl tl2 : TE} {g g2 : TG} {K : PySem.W.Frag}
theorem yes_in {σ : L2.St} {H : Hp} {A B : Hp → Prop} (h : A H) : tYes σ H fun b H3 => if b = true then A H3 else B H3 := by
  show (if true = true then A H else B H)
  rw [if_pos rfl]
  exact h
theorem ev_lc2 {α β γ : Type} {rα : Rep α} {rβ : Rep β} {rγ : Rep γ} {vs vs1 : List Nat} (f : α → List γ) {k : List γ → Prop} (hK : W.B.K = K)
    (h : EvK W tl Γ fun as : List α => ((as.flatMap f).length ≤ 100000) ∧ (∀ W', Sub W W' → ∀ a ∈ as, Lc2Turn (β := β) W W' g tl2 g2 te vs vs1 Γ a (f a)) ∧ k (as.flatMap f)) :
    EvK W (tLc2 (iList K tl) g tYes (iList K tl2) g2 tYes te vs vs1) Γ k := by
  subst hK
  intro σ H Q G c
  refine h σ H _ G fun v H1 as e1 ⟨p, xs, hv, hp, hd⟩ ⟨hbig, hs, hk⟩ => ⟨p, hv, ⟨xs, hp.sq⟩, fun D n => ?_⟩
  have G1 := G.ext e1
  have nm : ¬ W.mu D := fresh_mu e1.ok n
  have big : ∀ {m : Nat}, m ≤ 100000 → m < sizeLine := fun h => Nat.lt_of_le_of_lt h (by decide)
  let P : List γ → Hp → Prop := fun ys H' => Ext W H1 H' ∧ ∃ us, H' D = some (.lst us) ∧ Dl (den (W.toWc.plus D) H') us ys
  refine turns (J := Itl W.B.K p) (n := xs.length) (fun i H' => P ((as.take i).flatMap f) H') ⟨Ext.new e1.ok n, [], upd_same, .nil⟩ (fun i H' hi ⟨e, _⟩ => ⟨xs, xs[i], (hp.mono e.keep).sq, List.getElem?_eq_getElem hi⟩) (fun H' ⟨e, _⟩ => ⟨xs, (hp.mono e.keep).sq, Nat.le_refl _⟩) ?_ ?_
  · rintro i H' x H'' hi ⟨e, ws, hD, hw⟩ ⟨rfl, hx⟩
    have hx := hx xs (hp.mono e.keep).sq
    obtain ⟨a, ea, da⟩ := hd.at hx
    have ham : a ∈ as := List.mem_of_getElem? ea
    have htk : (as.take (i + 1)).flatMap f = (as.take i).flatMap f ++ f a := by
      rw [List.take_succ, ea, List.flatMap_append]
      simp
    have hlen : ((as.take (i + 1)).flatMap f).length ≤ 100000 := by
      have e2 : (as.flatMap f).length = ((as.take (i + 1)).flatMap f).length + ((as.drop (i + 1)).flatMap f).length := by
        rw [← List.length_append, ← List.flatMap_append, List.take_append_drop]
      omega
    have kp : Kp (W.toWc.plus D) H1 H'' := fun b o mb z => e.keep b o (fun z => mb (.inl z)) z
    obtain ⟨js, hjs, tj⟩ := hs _ (Sub.plusO (o := .lst ws) (n := n) (o1 := e1.ok) (w1 := G1.wish)) a ham
    have G2 : GOk (W.plusO D (.lst ws) H1 n e1.ok G1.wish) H'' σ Γ := ⟨⟨e.ok, hD⟩, fun b o mb z => e.keep b o mb z, fun j t hj => by
      obtain ⟨u, h1, h2⟩ := G1.at_ j t hj
      exact ⟨u, h1, Ty.mono kp (t.r.grow D n h2)⟩, G1.len⟩
    refine tj (wipe σ vs) H'' x _ (G2.wipe vs) (Rep.mono kp (Rep.grow D n da)) fun σ2 Γ2 G3 m2 q2 => ⟨wipe_same m2 (js_in hjs), ?_⟩
    refine yes_in ?_
    refine q2 σ2 H'' _ G3 fun u H4 bs e4 ⟨p2, us, hu, hp2, hd2⟩ ⟨hf, hmap, turn⟩ => ⟨p2, hu, ⟨us, hp2.sq⟩, ?_⟩
    have back4 : Ext W H1 H4 := ⟨fun b o mb z => by
      have hne : b ≠ D := fun q => by rw [q, n] at z; cases z
      exact e4.keep b o (fun q => q.elim mb hne) (e.keep b o mb z), e4.ok.1⟩
    have hD4 : H4 D = some (.lst ws) := e4.ok.2
    have kp4 : ∀ {H' : Hp}, (∀ b o, ¬ (W.toWc.plus D).mu b → H4 b = some o → H' b = some o) → Lq (W.toWc.plus D) H' p2 us := fun k => hp2.mono k
    have hw4 : Dl (den (W.toWc.plus D) H4) ws ((as.take i).flatMap f) := hw.imp fun _ _ d => Rep.mono (W := W.toWc.plus D) e4.keep d
    refine turns (J := Itl W.B.K p2) (n := us.length) (fun j H' => Kp (W.toWc.plus D) H4 H' ∧ P ((as.take i).flatMap f ++ (bs.take j).map hf) H') ⟨fun _ _ _ z => z, back4, ws, hD4, by simpa using hw4⟩ (fun j H' hj ⟨k, _⟩ => ⟨us, us[j], (kp4 k).sq, List.getElem?_eq_getElem hj⟩) (fun H' ⟨k, _⟩ => ⟨us, (kp4 k).sq, Nat.le_refl _⟩) ?_ ?_
    · rintro j H5 y H6 hj ⟨k5, e5, ws5, hD5, hw5⟩ ⟨rfl, hy⟩
      have hy := hy us (kp4 k5).sq
      obtain ⟨b, eb, db⟩ := hd2.at hy
      have hbm : b ∈ bs := List.mem_of_getElem? eb
      have htk2 : (bs.take (j + 1)).map hf = (bs.take j).map hf ++ [hf b] := by
        rw [List.take_succ, eb, List.map_append]
        rfl
      have hlen5 : ((as.take i).flatMap f ++ (bs.take j).map hf).length ≤ 100000 := by
        have h1 : ((bs.take j).map hf).length ≤ (f a).length := by
          rw [← hmap, List.length_map, List.length_map, List.length_take]
          omega
        rw [htk, List.length_append] at hlen
        rw [List.length_append]
        omega
      obtain ⟨js2, hjs2, tj2⟩ := turn _ (Sub.plusO (o := .lst ws5) (n := n) (o1 := e1.ok) (w1 := G1.wish)) b hbm
      have G4 := G3.ext e4
      have G6 : GOk (W.plusO D (.lst ws5) H1 n e1.ok G1.wish) H6 σ2 Γ2 := ⟨⟨e5.ok, hD5⟩, fun b o mb z => e5.keep b o mb z, fun q t hq => by
        obtain ⟨u, h1, h2⟩ := G4.at_ q t hq
        exact ⟨u, h1, Ty.mono (W := W.toWc.plus D) k5 h2⟩, G4.len⟩
      refine tj2 (wipe σ2 vs1) H6 y _ (G6.wipe vs1) (Rep.mono (W := W.toWc.plus D) k5 db) fun σ3 Γ3 G7 m3 q3 => ⟨wipe_same m3 (js_in hjs2), ?_⟩
      refine yes_in ?_
      refine q3 σ3 H6 _ G7 fun yv H7 c0 e7 hc0 hcb => ⟨ws5, e7.ok.2, big (by rw [hw5.length]; exact hlen5), ?_⟩
      have e7' : Ext W H1 H7 := ⟨fun b o mb z => by
        have hne : b ≠ D := fun q => by rw [q, n] at z; cases z
        exact e7.keep b o (fun q => q.elim mb hne) (e5.keep b o mb z), e7.ok.1⟩
      have kU : Kp (W.toWc.plus D) H7 (upd H7 D (.lst (ws5 ++ [yv]))) := fun b o mb z => by
        have hne : b ≠ D := fun q => mb (.inr q)
        rw [upd_ne hne]
        exact z
      refine ⟨fun b o mb z => kU b o mb (e7.keep b o mb (k5 b o mb z)), ⟨fun b o mb z => ?_, W.st _ _ _ e7'.ok nm⟩, ws5 ++ [yv], upd_same, ?_⟩
      · have hne : b ≠ D := fun q => by rw [q, n] at z; cases z
        rw [upd_ne hne]
        exact e7'.keep b o mb z
      · rw [htk2, ← List.append_assoc]
        refine Dl.append (hw5.imp fun _ _ d => Rep.mono (W := W.toWc.plus D) kU (Rep.mono (W := W.toWc.plus D) e7.keep d)) (.cons ?_ .nil)
        rw [← hcb]
        exact Rep.mono (W := W.toWc.plus D) kU hc0
    · rintro H' ⟨k', p'⟩
      rw [hd2.length, List.take_length, hmap, ← htk] at p'
      exact p'
  · rintro H' ⟨e, us, hD, hw⟩
    rw [hd.length, List.take_length] at hw
    exact c (.ref D) H' (as.flatMap f) (e1.trans e) ⟨D, us, rfl, ⟨nm, hD⟩, hw.imp fun _ _ d => Rep.shrink D d⟩ hk
end
end G
set_option Elab.async false
set_option linter.all false
set_option maxRecDepth 100000
set_option maxHeartbeats 2000000
namespace G
open PySem PySem.Spec PyProof.Rows L2 StX
/-! ### == of lists of stretches that are alike -/
/-- a world where nothing changes, of any heap -/
def Wd.free (B : Bs) : Wd where
  B := B
  mu := fun _ => False
  box := fun _ => False
  ok := fun _ => True
  live := fun _ _ _ h => h.elim
  st := fun _ _ _ _ _ => trivial
  wish := fun _ => True
  wst := fun _ _ _ _ _ => trivial
  hasbox := fun _ _ _ h => h.elim
  boxset := fun _ _ _ _ _ _ _ _ _ _ h => h.elim
  boxmu := fun _ h => h.elim
  oke := fun _ _ _ _ => trivial
def Rst (B : Bs) (a b : Addr) (H : Hp) : Prop := ∃ s : Stc, den (Wd.free B).toWc H (.ref a) s ∧ den (Wd.free B).toWc H (.ref b) s
theorem mon_rst {B : Bs} (a b : Addr) (H H' : Hp) (e : L2.Ext H H') (h : Rst B a b H) : Rst B a b H' := by
  obtain ⟨s, h1, h2⟩ := h
  exact ⟨s, Rep.mono (W := (Wd.free B).toWc) (fun c o _ z => e c o z) h1, Rep.mono (W := (Wd.free B).toWc) (fun c o _ z => e c o z) h2⟩
theorem sp_eq {B : Bs} {P : PT} (hP : ∀ s : Stc, P (fun t => t = T true) (fun _ => False) [T s, T s]) (vs : List V) (H : Hp) (Q : VK) (E : XK) (h : spEq (Rst B) vs H Q E) : spG B P vs H Q E := by
  obtain ⟨a, b, rfl, ⟨s, h1, h2⟩, q⟩ := h
  refine ⟨Wd.free B, [T s, T s], _, _, rfl, trivial, .cons (t := T s) h1 (.cons (t := T s) h2 .nil), hP s, fun v H' t e dt rt => ?_, fun n d2 H2 _ _ z => z.elim⟩
  subst rt
  obtain rfl : v = V.bl true := dt
  exact q H' fun c o z => e.keep c o (fun z => z) z
section
variable {X : Cx} {CX : CXT} {n : Nat} {f C : Addr} {R : Addr → Addr → Hp → Prop} {E : XK}
theorem rcG_own (T : EqT X.K C f) (F : FnR X.prog X.w X.K X.mg X.base CX n f (spEq R)) (hx : Passes CX X E) : RcG X n (DIns C R) := by
  rintro A pins s σ H x y u v sb I rx ry ⟨a, b, dx, dy, fs, gs, ex, ey, ha, hb, hr⟩
  subst ex
  subst ey
  cases (show u = Value.ref a from rx)
  cases (show v = Value.ref b from ry)
  obtain ⟨m, hF⟩ := I.fr
  obtain ⟨od1, J1⟩ := inst_of I ha
  obtain ⟨od2, J2⟩ := inst_of I hb
  refine PySem.W.cmp_K sb.room.units0 hF I.ok.mod.kin J1 J2.type (tb := .ref C) (op := .Eq) nf_self T.eq T.fn ?_
  have e1 := I.env0
  have e0 : Env0 X.prog X.w X.K X.mg X.base A X.stack s H := { e1 with frames := sb.fr.symm ▸ e1.frames }
  have h := F A X.stack s H [.ref a, .ref b] [.ref a, .ref b] (fun v H' => v = .bl true ∧ L2.Ext H H') E sb.room e0 (.cons rfl (.cons rfl .nil)) ⟨a, b, rfl, hr, fun H' e => ⟨rfl, e⟩⟩
  refine wpAny_call (codeAny_mono h fun r s' hq => ?_)
  rcases r with er | fl
  · exact hx pins σ H s er s' I hq
  · cases fl with
    | ret w =>
      obtain ⟨z, H', I', rz, ez, ex⟩ := I.after hq
      subst ez
      cases rz
      exact ⟨rfl, H', I', ex⟩
    | next => exact hq.elim
    | brk => exact hq.elim
    | cont => exact hq.elim
theorem op_eqLO {B : Bs} {P : PT} (TT : EqT X.K C f) (F : FnR X.prog X.w X.K X.mg X.base CX n f (spG B P)) (hP : ∀ s : Stc, P (fun t => t = T true) (fun _ => False) [T s, T s]) (hr : Room (n + 1) X.A) (hx : Passes CX X E) :
    OpR X (compareOp .Eq) (rEqG (DList (DIns C (Rst B)))) :=
  op_eqG (rcG_list (mon_ins mon_rst) ((rcG_own TT (F.imp (sp_eq hP)) hx).eqG fun _ _ _ d => let ⟨a, b, _, _, _, _, hx, hy, _⟩ := d; ⟨a, b, hx, hy⟩)) hr
end
section
variable {W : Wd} {Γ : Gam} {te tb : TE} {B : Bs} {C : Addr}
theorem ev_eqLO {k : Bool → Prop} (hB : W.B = B) (hC : B.cl .Stretch = C) (h : EvK W te Γ fun as : List Stc => EvK W tb Γ fun bs : List Stc => as = bs ∧ k true) : EvK W (tOp (rEqG (DList (DIns C (Rst B)))) te tb) Γ k := by
  subst hB
  subst hC
  refine ev_two (h.imp fun as ha => ha.imp fun bs ⟨e, z⟩ x y H Q o dx dy c => ?_)
  subst e
  obtain ⟨p, us, rfl, hp, hd⟩ := dx
  obtain ⟨q, ws, rfl, hq, hd2⟩ := dy
  refine ⟨⟨p, q, us, ws, rfl, rfl, hp.2, hq.2, hd.length.trans hd2.length.symm, fun i x y hx hy => ?_⟩, fun H' e => c (.bl true) H' true ⟨fun a o _ z => e a o z, W.oke H H' o e⟩ rfl z⟩
  obtain ⟨s, hs, ds⟩ := hd.at hx
  obtain ⟨t, ht, dt⟩ := hd2.at hy
  rw [hs] at ht
  cases ht
  obtain ⟨a, d1, rfl, _, h1⟩ := ds
  obtain ⟨b, d2, rfl, _, h2⟩ := dt
  exact ⟨a, b, d1, d2, _, _, rfl, rfl, h1, h2, s, ⟨a, d1, rfl, fun z => z, h1⟩, ⟨b, d2, rfl, fun z => z, h2⟩⟩
end
/-! ### C.m(), a static method without arguments -/
structure SmT (K : PySem.W.Frag) (C : Addr) (mc : Value) (m : Str) (p g : Addr) : Prop where
  at_ : PySem.W.findCls K (.ref C) mc m = some (.get (.builtin "staticmethod.__get__") (.ref p) .none (.ref C))
  rc : ∃ rest, PySem.W.recIn K p "staticmethod" = some (.ref g :: rest)
  kp : PySem.W.keepIn K (.ref g) = true
def tSM (sp : Sp) (E : L2.St → XK) : TE := fun σ H Q => sp [] H Q (E σ)
section
variable {X : Cx} {CX : CXT} {k : Nat} {g C : Addr} {mc : Value} {sp : Sp} {E : L2.St → XK} {x m : Str} {pos apos pp : Pos}
theorem pe_smeth0 {pl : Sem Bool} (r : ClX.CRead X.K C mc) (c : ∃ p, SmT X.K C mc m p g) (F : FnR X.prog X.w X.K X.mg X.base CX k g sp) (hr : Room k X.A) (hx : ∀ σ, PassesAt CX X σ (E σ)) (hm : X.mg x = some (.ref C)) (hg : Gl X x := by rfl) (hdb : (x == ("__debug__" : Str)) = false := by decide)
    (ht : eval (.Call (.Attribute (.Name x pp) m apos) [] [] pos) X.env = (do
      let ov ← eval (.Name x pp) X.env
      standAt apos.atName
      let (f, first) ← holding [ov] (getMethod ov m pl)
      callWith pos f first (backTo pos (starEach [] X.env)) (backToKw pos (keywordEach [] X.env))) := by rfl) :
    PE X (.Call (.Attribute (.Name x pp) m apos) [] [] pos) (tSM sp E) := by
  obtain ⟨p, c⟩ := c
  obtain ⟨rest, hp⟩ := c.rc
  refine ⟨fun pins s σ H Q I h => ?_⟩
  refine PySem.W.methodCall_KW (pl := pl) (ld_glob I hg hm ?_ hdb) ht
  refine PySem.W.method_cls (I.tok _).kIn r.ga (PySem.W.cls_bind (I.tok _).kIn r.rd c.at_ (wpAny_call (PySem.W.sm_get ((I.tok _).tok _).kIn hp (PySem.W.handed_on rfl ?_))))
  exact PySem.W.callWith_K0 ((I.tok _).tok _).kIn c.kp (run_fnRS (vs := []) F hr (hx σ) ((I.tok _).tok _) .nil h)
end
theorem ev_smeth0 {W : Wd} {Γ : Gam} {B : Bs} {P : PT} {α : Type} {rα : Rep α} {k : α → Prop} (hB : W.B = B) (h : P (fun t => ∃ a : α, t = T a ∧ k a) (fun _ => False) []) : EvK W (tSM (spG B P) fun _ => E0) Γ k := by
  refine fun σ H Q G c => ⟨W, [], _, _, hB, G.ok, .nil, h, fun v H' t e dt ⟨a, ea, z⟩ => ?_, fun n d2 H2 _ _ z => z.elim⟩
  subst ea
  exact c v H' a e dt z
end G
set_option Elab.async false
set_option linter.all false
set_option maxRecDepth 100000
set_option maxHeartbeats 2000000
namespace G
open PySem PySem.Spec PyProof.Rows L2 StX
instance : HasTy Lvs fun B => .ref (B.cl .Levels) := ⟨fun ⟨a, dx, y, hv, m, h, _⟩ => by subst hv; exact .ins h⟩
/-! ### mathematics of the three signs -/
def okP (q : Int × Int) : Bool := decide (q.1 ≤ q.2)
def andF (as bs : List (Int × Int)) : List (Int × Int) := as.flatMap fun a => bs.map fun b => (max a.1 b.1, min a.2 b.2)
def meetF (as bs : List (Int × Int)) : List (Int × Int) := unionF ((andF as bs).filter okP)
def sumF (as bs : List (Int × Int)) : List (Int × Int) := unionF (as ++ bs)
def gapsF (lo hi : Int) (bs : List (Int × Int)) : List (Int × Int) := (([lo] ++ bs.map fun b : Int × Int => b.2 + 1).zip ((bs.map fun b : Int × Int => b.1 - 1) ++ [hi])).filter okP
def diffF (as bs : List (Int × Int)) : List (Int × Int) := match as.head?, as.getLast? with
  | some f, some l => meetF as (unionF (gapsF f.1 l.2 bs))
  | _, _ => []
theorem memP_iff {x : Int} {ps : List (Int × Int)} : memP x ps ↔ ∃ p ∈ ps, p.1 ≤ x ∧ x ≤ p.2 := Iff.rfl
theorem memP_append {x : Int} {as bs : List (Int × Int)} : memP x (as ++ bs) ↔ memP x as ∨ memP x bs := by
  simp only [memP_iff, List.mem_append]
  constructor
  · rintro ⟨p, hp | hp, h⟩
    · exact .inl ⟨p, hp, h⟩
    · exact .inr ⟨p, hp, h⟩
  · rintro (⟨p, hp, h⟩ | ⟨p, hp, h⟩)
    · exact ⟨p, .inl hp, h⟩
    · exact ⟨p, .inr hp, h⟩
theorem filt_ok (ps : List (Int × Int)) : ∀ q ∈ ps.filter okP, q.1 ≤ q.2 := fun q hq => of_decide_eq_true (List.mem_filter.mp hq).2
theorem memP_filt {x : Int} {ps : List (Int × Int)} : memP x (ps.filter okP) ↔ memP x ps := by
  simp only [memP_iff]
  constructor
  · rintro ⟨p, hp, h⟩
    exact ⟨p, (List.mem_filter.mp hp).1, h⟩
  · rintro ⟨p, hp, h1, h2⟩
    exact ⟨p, List.mem_filter.mpr ⟨hp, decide_eq_true (by omega)⟩, h1, h2⟩
theorem andF_mem {x : Int} {as bs : List (Int × Int)} : memP x (andF as bs) ↔ memP x as ∧ memP x bs := by
  simp only [memP_iff, andF]
  constructor
  · rintro ⟨p, hp, h1, h2⟩
    obtain ⟨a, ha, hp⟩ := List.mem_flatMap.mp hp
    obtain ⟨b, hb, rfl⟩ := List.mem_map.mp hp
    have h1' : max a.1 b.1 ≤ x := h1
    have h2' : x ≤ min a.2 b.2 := h2
    exact ⟨⟨a, ha, by omega, by omega⟩, b, hb, by omega, by omega⟩
  · rintro ⟨⟨a, ha, h1, h2⟩, b, hb, h3, h4⟩
    exact ⟨_, List.mem_flatMap.mpr ⟨a, ha, List.mem_map.mpr ⟨b, hb, rfl⟩⟩, by show max a.1 b.1 ≤ x; omega, by show x ≤ min a.2 b.2; omega⟩
theorem meetF_nf (as bs : List (Int × Int)) : NF (meetF as bs) := unionF_nf (filt_ok _)
theorem meetF_mem {x : Int} {as bs : List (Int × Int)} : memP x (meetF as bs) ↔ memP x as ∧ memP x bs := by
  unfold meetF
  rw [unionF_mem (filt_ok _), memP_filt, andF_mem]
theorem sumF_nf {as bs : List (Int × Int)} (ha : ∀ q ∈ as, q.1 ≤ q.2) (hb : ∀ q ∈ bs, q.1 ≤ q.2) : NF (sumF as bs) :=
  unionF_nf fun q hq => (List.mem_append.mp hq).elim (ha q) (hb q)
theorem sumF_mem {x : Int} {as bs : List (Int × Int)} (ha : ∀ q ∈ as, q.1 ≤ q.2) (hb : ∀ q ∈ bs, q.1 ≤ q.2) : memP x (sumF as bs) ↔ memP x as ∨ memP x bs := by
  unfold sumF
  rw [unionF_mem (fun q hq => (List.mem_append.mp hq).elim (ha q) (hb q)), memP_append]
/-- the gaps, before the empty ones are left out -/
def gaps0 : Int → Int → List (Int × Int) → List (Int × Int)
  | lo, hi, [] => [(lo, hi)]
  | lo, hi, b :: r => (lo, b.1 - 1) :: gaps0 (b.2 + 1) hi r
theorem gaps0_eq : ∀ (bs : List (Int × Int)) (lo hi : Int), ([lo] ++ bs.map fun b : Int × Int => b.2 + 1).zip ((bs.map fun b : Int × Int => b.1 - 1) ++ [hi]) = gaps0 lo hi bs
  | [], lo, hi => rfl
  | b :: r, lo, hi => by
    have ih := gaps0_eq r (b.2 + 1) hi
    show (lo, b.1 - 1) :: (([b.2 + 1] ++ r.map fun b : Int × Int => b.2 + 1).zip ((r.map fun b : Int × Int => b.1 - 1) ++ [hi])) = _
    rw [ih]
    rfl
theorem gaps0_low : ∀ (bs : List (Int × Int)) (lo hi x : Int), (∀ q ∈ bs, lo ≤ q.2 + 1) → memP x (gaps0 lo hi bs) → lo ≤ x
  | [], lo, hi, x, _, ⟨p, hp, h1, _⟩ => by
    rw [List.mem_singleton.mp hp] at h1
    exact h1
  | b :: r, lo, hi, x, hb, ⟨p, hp, h1, h2⟩ => by
    rcases List.mem_cons.mp hp with rfl | hp
    · exact h1
    · have key : ∀ (r : List (Int × Int)) (c : Int), lo ≤ c → (∀ q ∈ r, lo ≤ q.2 + 1) → ∀ p ∈ gaps0 c hi r, lo ≤ p.1 := by
        intro r
        induction r with
        | nil =>
          intro c hc _ p hp
          rw [List.mem_singleton.mp hp]
          exact hc
        | cons b r ih =>
          intro c hc hq p hp
          rcases List.mem_cons.mp hp with rfl | hp
          · exact hc
          · exact ih _ (hq b List.mem_cons_self) (fun q hq' => hq q (List.mem_cons_of_mem _ hq')) p hp
      have := key r _ (hb b List.mem_cons_self) (fun q hq => hb q (List.mem_cons_of_mem _ hq)) p hp
      have h1' : p.1 ≤ x := h1
      omega
theorem gaps0_mem : ∀ (bs : List (Int × Int)) (lo hi x : Int), NF bs → lo ≤ x → x ≤ hi → (memP x (gaps0 lo hi bs) ↔ ¬ memP x bs)
  | [], lo, hi, x, _, h1, h2 => ⟨fun _ ⟨_, h, _⟩ => (nomatch h), fun _ => ⟨_, List.mem_singleton.mpr rfl, h1, h2⟩⟩
  | b :: r, lo, hi, x, hn, h1, h2 => by
    obtain ⟨hb, hr, hg⟩ := nf_cons hn
    by_cases c1 : x ≤ b.1 - 1
    · refine ⟨fun _ => ?_, fun _ => ⟨_, List.mem_cons_self, h1, c1⟩⟩
      rintro ⟨p, hp, g1, g2⟩
      have g1' : p.1 ≤ x := g1
      rcases List.mem_cons.mp hp with rfl | hp
      · omega
      · have := hg p hp
        omega
    · have split : memP x (gaps0 lo hi (b :: r)) ↔ memP x (gaps0 (b.2 + 1) hi r) := by
        constructor
        · rintro ⟨p, hp, g1, g2⟩
          rcases List.mem_cons.mp hp with rfl | hp
          · exact absurd g2 c1
          · exact ⟨p, hp, g1, g2⟩
        · rintro ⟨p, hp, g⟩
          exact ⟨p, List.mem_cons_of_mem _ hp, g⟩
      rw [split]
      by_cases c2 : x ≤ b.2
      · refine ⟨fun h => ?_, fun h => absurd (show memP x (b :: r) from ⟨b, List.mem_cons_self, by show b.1 ≤ x; omega, c2⟩) h⟩
        have := gaps0_low r (b.2 + 1) hi x (fun q hq => by have := hg q hq; have := hr.1 q hq; omega) h
        omega
      · rw [gaps0_mem r (b.2 + 1) hi x hr (by omega) h2]
        constructor
        · rintro h ⟨p, hp, g1, g2⟩
          rcases List.mem_cons.mp hp with rfl | hp
          · exact absurd g2 c2
          · exact h ⟨p, hp, g1, g2⟩
        · rintro h ⟨p, hp, g⟩
          exact h ⟨p, List.mem_cons_of_mem _ hp, g⟩
theorem nf_last : ∀ {ps : List (Int × Int)} {l : Int × Int}, NF ps → ps.getLast? = some l → ∀ q ∈ ps, q.2 ≤ l.2
  | [], l, _, h, q, hq => nomatch hq
  | [p], l, _, h, q, hq => by
    rw [List.mem_singleton.mp hq]
    have : p = l := by simpa using h
    rw [this]
    exact Int.le_refl _
  | p :: p2 :: r, l, hn, h, q, hq => by
    obtain ⟨hp, hr, hg⟩ := nf_cons hn
    have h' : (p2 :: r).getLast? = some l := by simpa using h
    have ih := nf_last hr h'
    rcases List.mem_cons.mp hq with rfl | hq
    · have a := hg p2 List.mem_cons_self
      have b := ih p2 List.mem_cons_self
      have c := hr.1 p2 List.mem_cons_self
      omega
    · exact ih q hq
theorem diffF_ok {as bs : List (Int × Int)} (ha : NF as) (hb : NF bs) : NF (diffF as bs) ∧ ∀ x, memP x (diffF as bs) ↔ memP x as ∧ ¬ memP x bs := by
  cases as with
  | nil => exact ⟨nf_nil, fun x => ⟨fun ⟨_, h, _⟩ => (nomatch h), fun ⟨⟨_, h, _⟩, _⟩ => (nomatch h)⟩⟩
  | cons f r =>
    obtain ⟨l, hl⟩ : ∃ l, (f :: r).getLast? = some l := ⟨_, List.getLast?_eq_some_getLast (List.cons_ne_nil f r)⟩
    have e : diffF (f :: r) bs = meetF (f :: r) (unionF (gapsF f.1 l.2 bs)) := by
      unfold diffF
      rw [hl]
      rfl
    rw [e]
    refine ⟨meetF_nf _ _, fun x => ?_⟩
    rw [meetF_mem]
    unfold gapsF
    rw [unionF_mem (filt_ok _), memP_filt, gaps0_eq]
    refine and_congr_right fun hx => ?_
    have h1 := nf_low ha hx
    obtain ⟨p, hp, h2, h3⟩ := hx
    have h3' : x ≤ p.2 := h3
    have h4 := nf_last ha hl p hp
    exact gaps0_mem bs f.1 l.2 x hb h1 (by omega)
/-- where membership turns, an entry begins or has ended -/
theorem memP_turn {ps : List (Int × Int)} {y : Int} (h : ¬ (memP (y - 1) ps ↔ memP y ps)) : ∃ p ∈ ps, p.1 = y ∨ p.2 + 1 = y := by
  by_cases a : memP y ps
  · have b : ¬ memP (y - 1) ps := fun b => h ⟨fun _ => a, fun _ => b⟩
    obtain ⟨p, hp, h1, h2⟩ := a
    have h1' : p.1 ≤ y := h1
    have h2' : y ≤ p.2 := h2
    refine ⟨p, hp, .inl ?_⟩
    have : ¬ p.1 ≤ y - 1 := fun z => b ⟨p, hp, z, by show y - 1 ≤ p.2; omega⟩
    omega
  · have b : memP (y - 1) ps := Classical.byContradiction fun b => h ⟨fun z => absurd z b, fun z => absurd z a⟩
    obtain ⟨p, hp, h1, h2⟩ := b
    have h1' : p.1 ≤ y - 1 := h1
    have h2' : y - 1 ≤ p.2 := h2
    refine ⟨p, hp, .inr ?_⟩
    have : ¬ y ≤ p.2 := fun z => a ⟨p, hp, by show p.1 ≤ y; omega, z⟩
    omega
/-- membership of L hangs on that of l and r alone -/
def Hangs (L l r : List (Int × Int)) : Prop := ∀ x y, (memP x l ↔ memP y l) → (memP x r ↔ memP y r) → (memP x L ↔ memP y L)
theorem hangs_ends {L l r : List (Int × Int)} (hn : NF L) (hd : Hangs L l r) {q : Int × Int} (hq : q ∈ L) : (∃ p ∈ l ++ r, p.1 = q.1 ∨ p.2 + 1 = q.1) ∧ ∃ p ∈ l ++ r, p.1 - 1 = q.2 ∨ p.2 = q.2 := by
  obtain ⟨g1, g2⟩ := nf_gap hn hq
  have ho := hn.1 q hq
  have m1 : memP q.1 L := ⟨q, hq, Int.le_refl _, ho⟩
  have m2 : memP q.2 L := ⟨q, hq, ho, Int.le_refl _⟩
  have pick : ∀ y, ¬ (memP (y - 1) L ↔ memP y L) → ∃ p ∈ l ++ r, p.1 = y ∨ p.2 + 1 = y := fun y hy => by
    by_cases a : memP (y - 1) l ↔ memP y l
    · have b : ¬ (memP (y - 1) r ↔ memP y r) := fun b => hy (hd _ _ a b)
      obtain ⟨p, hp, h⟩ := memP_turn b
      exact ⟨p, List.mem_append.mpr (.inr hp), h⟩
    · obtain ⟨p, hp, h⟩ := memP_turn a
      exact ⟨p, List.mem_append.mpr (.inl hp), h⟩
  refine ⟨pick q.1 fun z => g1 (z.mpr m1), ?_⟩
  obtain ⟨p, hp, h⟩ := pick (q.2 + 1) fun z => g2 (z.mp (by rw [show q.2 + 1 - 1 = q.2 by omega]; exact m2))
  exact ⟨p, hp, by omega⟩
theorem meetF_len {as bs : List (Int × Int)} : (meetF as bs).length ≤ as.length * bs.length := by
  refine Nat.le_trans (unionF_len _) (Nat.le_trans (List.length_filter_le _ _) ?_)
  unfold andF
  induction as with
  | nil => exact Nat.zero_le _
  | cons a r ih =>
    rw [List.flatMap_cons, List.length_append, List.length_map, List.length_cons, Nat.succ_mul]
    omega
theorem andF_len {as bs : List (Int × Int)} : (andF as bs).length = as.length * bs.length := by
  unfold andF
  induction as with
  | nil => simp
  | cons a r ih =>
    rw [List.flatMap_cons, List.length_append, List.length_map, List.length_cons, Nat.succ_mul, ih]
    omega
end G
namespace G
open PySem
theorem andS (as bs : List Stc) : (as.flatMap fun a => bs.map fun b => (max a.lo b.lo, min a.hi b.hi)) = andF (as.map stcE) (bs.map stcE) := by
  unfold andF
  rw [List.flatMap_map]
  congr 1
  funext a
  rw [List.map_map]
  rfl
theorem filt_stc (ps : List (Int × Int)) : (ps.map mkStc).map stcE = ps := by
  rw [List.map_map]
  exact List.map_id _
theorem diffF_len (as bs : List (Int × Int)) : (diffF as bs).length ≤ as.length * (bs.length + 1) := by
  unfold diffF
  split
  · refine Nat.le_trans meetF_len (Nat.mul_le_mul_left _ ?_)
    refine Nat.le_trans (unionF_len _) (Nat.le_trans (List.length_filter_le _ _) ?_)
    rw [List.length_zip]
    simp
  · exact Nat.zero_le _
theorem any_iff {x : Int} {ps : List (Int × Int)} {f : Int × Int → Bool} (hf : ∀ p, f p = (decide (p.1 ≤ x) && decide (x ≤ p.2))) : ps.any f = true ↔ memP x ps := by
  rw [List.any_eq_true]
  constructor
  · rintro ⟨p, hp, h⟩
    rw [hf, Bool.and_eq_true, decide_eq_true_iff, decide_eq_true_iff] at h
    exact ⟨p, hp, h⟩
  · rintro ⟨p, hp, h⟩
    refine ⟨p, hp, ?_⟩
    rw [hf, Bool.and_eq_true, decide_eq_true_iff, decide_eq_true_iff]
    exact h
end G
namespace G
theorem lvF_nil : lvF [] = [] := by
  show (unionF ([] : List (Int × Int))).map mkStc = []
  rw [unionF_id nf_nil]
  rfl
end G
set_option Elab.async false
set_option linter.all false
set_option maxRecDepth 100000
set_option maxHeartbeats 2000000
namespace G
open PySem PySem.Spec PyProof.Rows L2 StX
/-! ### the truth of an own object, by its own __bool__ -/
def tTruO (C : Addr) (sp : Sp) (te : TE) : TT := fun σ H Q => te σ H fun x H1 => ∃ a dx fs, x = .ref a ∧ H1 a = some (.ins C dx fs) ∧ sp [x] H1 (fun v H2 => ∃ b, v = .bl b ∧ Q b H2) fun _ _ _ => False
section
variable {X : Cx} {CX : CXT} {n : Nat} {f C : Addr} {sp : Sp} {a : Expr} {ta : TE}
theorem pt_truO (ha : L2.PE X a ta) (T : SpT X.K C "__bool__" f) (F : FnR X.prog X.w X.K X.mg X.base CX n f sp) (hr : Room n X.A) (hx : Passes CX X (fun _ _ _ => False))
    (he : ∀ whole, isTrue a X.env whole = (do let v ← whole; standAt a.pos; holding [v] (truthy v))) : L2.PT X a (tTruO C sp ta) := by
  refine ⟨fun pins s σ H Q I h => ?_⟩
  refine isTrue_plain (thn (ha.run pins s σ H _ I h) fun v s1 ⟨x, H1, I1, r1, q, dx, fs, ex, ea, q1⟩ => ?_) (he _)
  subst ex
  obtain rfl : v = Value.ref q := r1
  obtain ⟨od, J⟩ := inst_of I1 ea
  obtain ⟨m', hF⟩ := I1.fr
  refine PySem.W.truthy_K hF I1.ok.mod.kin J T.at_ T.fn (thn (wpAny_call (run_fnR (us := [.ref q]) (vs := [.ref q]) F hr hx I1 (.cons rfl .nil) q1)) fun w s' ⟨v, H', I', rv, b, ev, q2⟩ => ?_)
  subst ev
  obtain rfl : w = Value.bool b := rv
  exact ⟨H', I', q2⟩
end
section
variable {W : Wd} {Γ : Gam} {te : TE} {B : Bs} {C : Addr} {P : PT}
theorem et_truO {β : Type} {rβ : Rep β} {k : Bool → Prop} (hB : W.B = B) (h : EvK W te Γ fun s : β => OwnG β B C (P (fun t => ∃ b : Bool, t = T b ∧ k b) (fun _ => False) [T s])) : EvT W (tTruO C (spG B P) te) Γ k := by
  subst hB
  refine fun σ H Q G c => h σ H _ G fun v H1 s e1 d ⟨cc, fl, iβ, hC, z⟩ => ?_
  subst hC
  obtain ⟨p, dp, fs, hv, _, hH, _⟩ := iβ.at_ d
  exact ⟨p, dp, fs, hv, hH, W, _, _, _, rfl, e1.ok, .cons (t := T s) d .nil, z, fun v2 H2 t e2 dt ⟨b, eb, kb⟩ => by
    subst eb
    exact ⟨b, dt, c H2 b (e1.trans e2) kb⟩, fun n d2 H2 _ _ q => q.elim⟩
end
end G
set_option Elab.async false
set_option linter.all false
set_option maxRecDepth 100000
set_option maxHeartbeats 2000000
namespace G
open PySem PySem.Spec PyProof.Rows L2 StX
/-- the items with their places -/
def enumF {α : Type} (as : List α) : List (Int × α) := as.zipIdx.map fun q => ((q.2 : Int), q.1)
theorem enumF_length {α : Type} (as : List α) : (enumF as).length = as.length := by unfold enumF; rw [List.length_map, List.length_zipIdx]
theorem enumF_at {α : Type} {as : List α} {i : Nat} {a : α} (h : as[i]? = some a) : (enumF as)[i]? = some ((i : Int), a) := by
  unfold enumF
  rw [List.getElem?_map, List.getElem?_zipIdx, h]
  simp
section
variable {W : Wd} {Γ : Gam} {ta te : TE} {tt : TT} {g : TG} {K : PySem.W.Frag}
theorem evF_lcE {α γ : Type} {rα : Rep α} {rγ : Rep γ} {vs : List Nat} {k : List γ → Prop} (hK : W.B.K = K)
    (h : EvK W ta Γ fun as : List α => as.length ≤ 100000 ∧ ∃ I : Nat → List γ → Prop, I 0 [] ∧
      (∀ W', Sub W W' → ∀ (i : Nat) (p : Int × α) (cs : List γ), (enumF as)[i]? = some p → I i cs → LcTurn W' g tt te vs Γ p (I (i + 1) cs) fun y : γ => I (i + 1) (cs ++ [y])) ∧ ∀ cs, I (enumF as).length cs → k cs) :
    EvF W (tLc (iEnum K (tCons ta tNil)) g tt te vs) Γ k := by
  subst hK
  refine fun σ H Q E c => h σ H _ E fun va H1 as e1 ⟨p1, xs, hv1, hp1, hd1⟩ ⟨hl, I, h0, hs, hf⟩ => ?_
  refine ⟨p1, xs, by rw [hv1], hp1.sq, fun D n => ?_⟩
  have G1 := E.ext e1
  have eD : Ext W H1 (upd H1 D (.lst [])) := Ext.new e1.ok n
  have hxl := hd1.length
  have hzl : (enumF as).length = xs.length := by rw [enumF_length, hd1.length]
  refine turns (J := Ite W.B.K p1) (n := xs.length) (fun i H' => Ext W H1 H' ∧ ∃ acc cs, H' D = some (.lst acc) ∧ Dl (den (W.toWc.plus D) H') acc cs ∧ acc.length ≤ i ∧ I i cs) ⟨eD, [], [], upd_same, .nil, Nat.le_refl _, h0⟩ ?_ ?_ ?_ ?_
  · rintro i H' hi ⟨e, _⟩
    exact ⟨xs, xs[i], (hp1.mono e.keep).sq, List.getElem?_eq_getElem hi⟩
  · rintro H' ⟨e, _⟩
    exact ⟨xs, (hp1.mono e.keep).sq, Nat.le_refl _⟩
  · rintro i H' v H'' hi ⟨e, acc, cs, hD, hb, ha, q⟩ ⟨t, x, rfl, ht, rfl, hx⟩
    have hx := hx xs (hp1.mono e.keep).sq
    obtain ⟨a, ea, dx⟩ := hd1.at hx
    have e2 : Ext W H' (upd H' t (.tup [.int (i : Nat), x])) := Ext.new e.ok ht
    have hDt : D ≠ t := ne_of_none hD ht
    have nmt : ¬ (W.toWc.plus D).mu t := fun z => z.elim (fresh_mu e.ok ht) fun z => hDt z.symm
    have kq : Kp (W.toWc.plus D) H' (upd H' t (.tup [.int (i : Nat), x])) := fun b o m z => by rw [upd_ne (ne_of_none z ht)]; exact z
    have kp : Kp (W.toWc.plus D) H1 (upd H' t (.tup [.int (i : Nat), x])) := fun b o m z => (e.trans e2).keep b o (fun z => m (.inl z)) z
    refine lc_turnN (I := I (i + 1)) (P := fun H' => Ext W H1 H' ∧ ∃ acc cs, H' D = some (.lst acc) ∧ Dl (den (W.toWc.plus D) H') acc cs ∧ acc.length ≤ i + 1 ∧ I (i + 1) cs) (hs _ (Sub.plus (n := n) (o1 := e1.ok) (w1 := G1.wish)) i ((i : Int), a) cs (enumF_at ea) q) G1 (e.trans e2) (by rw [upd_ne hDt]; exact hD) (hb.imp fun _ _ d => Rep.mono kq d)
      ⟨t, .int (i : Nat), x, rfl, ⟨nmt, upd_same⟩, rfl, Rep.mono kp (Rep.grow D n dx)⟩ (by omega) fun H2 acc2 bs2 e3 hD2 hb2 hl2 q2 => ⟨e3, acc2, bs2, hD2, hb2, by omega, q2⟩
  · rintro H' ⟨e, acc, cs, hD, hb, ha, q⟩
    rw [← hzl] at q
    exact c D H' acc cs (fresh_back e1.ok e1 n) (e1.trans e) hD hb (hf cs q)
theorem evF_lcEF {α γ : Type} [rα : Rep α] [rγ : Rep γ] {vs : List Nat} {k : List γ → Prop} (p : Int × α → Bool) (f : Int × α → γ) (hK : W.B.K = K)
    (h : EvK W ta Γ fun as : List α => as.length ≤ 100000 ∧ (∀ W', Sub W W' → ∀ q ∈ enumF as, LcTurn W' g tt te vs Γ q (p q = false) fun y : γ => p q = true ∧ y = f q) ∧ k (((enumF as).filter p).map f)) :
    EvF W (tLc (iEnum K (tCons ta tNil)) g tt te vs) Γ k := evF_lcE hK (h.imp fun as ⟨hl, hs, q⟩ => ⟨hl, fun i cs => cs = (((enumF as).take i).filter p).map f, by simp, lcF_turns p f hs, fun cs e => by rw [e, List.take_length]; exact q⟩)
end
end G
namespace G
open PySem PySem.Spec PyProof.Rows L2 StX
/-! ### two clauses behind a try, without names -/
section
variable {W : Wd} {Γ : Gam} {R : Po}
/-- the clause of a kind of error that is caught -/
def Caught (K : PySem.W.Frag) (W : Wd) (Γ : Gam) (R : Po) (l : List (Value × (Addr → Value → Option Addr → TS))) (n : Xn) : Prop := match l with
  | [] => False
  | (c, ts) :: r => (PySem.W.exmOne K (.ref (W.B.cl n.c)) c = some true ∧ ∀ a d, Sx W (ts a (.ref (W.B.cl n.c)) d) Γ R) ∨ (PySem.W.exmOne K (.ref (W.B.cl n.c)) c = some false ∧ Caught K W Γ R r n)
theorem caught_run {K : PySem.W.Frag} {Wout : WX} {D : Ends} {H2 : Hp} {σ : L2.St} {n : Xn} {d : Option Addr} (G2 : GOk W H2 σ Γ) (O : EOk W H2 D R) : ∀ {l : List (Value × (Addr → Value → Option Addr → TS))}, Caught K W Γ R l n → wMany K Wout D l (.ref (W.B.cl n.c)) d σ H2
  | [], h => h.elim
  | (c, ts) :: r, .inl ⟨h1, h2⟩ => ⟨true, h1, fun _ a _ => h2 a d _ σ H2 G2 O, fun q => Bool.noConfusion q⟩
  | (c, ts) :: r, .inr ⟨h1, h2⟩ => ⟨false, h1, fun q => Bool.noConfusion q, fun _ => caught_run G2 O h2⟩
theorem sx_tryMany {K : PySem.W.Frag} {l : List (Value × (Addr → Value → Option Addr → TS))} {tb : WX → TS} {Wout : WX} (x : Xn → Prop)
    (hb : ∀ (W' : Wd) (Wx : WX), W'.B = W.B → HX W' Γ (WE Wx) x → Sx W' (tb Wx) Γ R) (hs : ∀ n, x n → Caught K W Γ R l n) :
    Sx W (fun D σ H => tb (wMany K Wout D l) D σ H) Γ R := fun D σ H G O => by
  have key : ∀ σ n d H2, Ext W H H2 → GOk W H2 σ Γ → xden W.toWc H2 d n.fs → x n → WE (wMany K Wout D l) σ (.ref (W.B.cl n.c)) d H2 := fun σ n d H2 e G2 xd xn =>
    caught_run G2 ⟨fun σ' H' Γ' e' G' q => O.nx σ' H' Γ' (e.trans e') G' q, fun v H' t e' dv q => O.rt v H' t (e.trans e') dv q, fun σ' H' Γ' e' G' q => O.bk σ' H' Γ' (e.trans e') G' q, fun σ' H' Γ' e' G' q => O.ct σ' H' Γ' (e.trans e') G' q⟩ (hs n xn)
  refine hb (W.tr Γ (WE (wMany K Wout D l)) x) _ rfl (fun σ' H' G' n d H2 e xd xn => ?_) D σ H ⟨G.ok, ⟨G.wish, key⟩, G.at_, G.len⟩ ⟨fun σ' H' Γ' e' G' q => O.nx σ' H' Γ' e'.untr G'.untr q, fun v H' t e' dv q => O.rt v H' t e'.untr dv q, fun σ' H' Γ' e' G' q => O.bk σ' H' Γ' e'.untr G'.untr q, fun σ' H' Γ' e' G' q => O.ct σ' H' Γ' e'.untr G'.untr q⟩
  exact G'.wish.2 σ' n d H2 e.untr (G'.untr.ext e.untr) xd xn
end
end G
set_option Elab.async false
set_option linter.all false
set_option maxRecDepth 100000
set_option maxHeartbeats 2000000
namespace G
open PySem PySem.Spec PyProof.Rows L2 StX
/-! ### a range that is kept in a name -/
def RngO (a : Addr) (lo hi : Int) : HO := .ext fun h => ∃ t u v, IsRange h a lo hi 1 t u v
structure Rg where
  lo : Int
  hi : Int
instance : Rep Rg := ⟨fun W H v r => ∃ a, v = .ref a ∧ ¬ W.mu a ∧ H a = some (RngO a r.lo r.hi), fun e ⟨a, hv, m, h⟩ => ⟨a, hv, m, e _ _ m h⟩, fun D n ⟨a, hv, m, h⟩ => ⟨a, hv, mu_grow n m h, h⟩, fun D ⟨a, hv, m, h⟩ => ⟨a, hv, fun z => m (.inl z), h⟩⟩
def tRg (ta : TA) : TE := fun σ H Q => ta σ H fun vs H1 => ∃ j : Int, vs = [.int j] ∧ ∀ p, H1 p = none → Q (.ref p) (upd H1 p (RngO p 0 j))
def iRgV (te : TE) : TI := fun σ H R => te σ H fun x H1 => ∃ (a : Addr) (lo hi : Int), x = .ref a ∧ H1 a = some (RngO a lo hi) ∧ (-(2 ^ 62) ≤ lo ∧ lo < 2 ^ 62 ∧ -(2 ^ 62) ≤ hi ∧ hi < 2 ^ 62) ∧ R (Itr lo (hi - lo).toNat) H1
section
variable {X : Cx} {tg : Expr}
theorem pe_rg {a : Expr} {ta : TA} {p pos : Pos} (hg : Gl X "range") (hm : X.mg "range" = none) (ha : PA X [a] ta) (hs : starEach [a] X.env = [(false, eval a X.env)] := by rfl) : L2.PE X (.Call (.Name "range" p) [a] [] pos) (tRg ta) := by
  refine ⟨fun pins s σ H Q I h => ?_⟩
  refine Call_ (ld_blt I hg hm boot_range (PyProof.Rows.callWith_type1 (thn (ha.run pos pins s σ H _ I h) fun us s1 ⟨vs, H1, I1, r1, j, ev, q⟩ => ?_) hs rfl))
  subst ev
  obtain ⟨u, rfl, t, rfl⟩ := vals1 r1
  refine call_range_1 ⟨.ref s1.heap.objs.size, upd H1 s1.heap.objs.size (RngO s1.heap.objs.size 0 j), ?_, rfl, q _ (I1.hok.fresh (Nat.le_refl _))⟩
  refine I1.laid (fun b o e => Heap.get?_push_of_some _ e) (Nat.le_refl _) ⟨⟨_, _, _, IsRange.new _ _ _ _ _ _ _⟩, ⟨_, Heap.get?_push_size _ rfl⟩, fun h1 h2 ⟨t, u, v, k⟩ hk => ⟨t, u, v, hk _ k⟩⟩
theorem pi_rgV {e : Expr} {te : TE} (he : L2.PE X e te) : PI X tg e (iRgV te) := by
  refine ⟨fun pins s σ H R I h => ?_⟩
  refine thn (he.run pins s σ H _ I h) fun v s1 ⟨x, H1, I1, r1, a, lo, hi, ex, ea, ⟨b1, b2, b3, b4⟩, q⟩ => ?_
  subst ex
  obtain rfl : v = Value.ref a := r1
  obtain ⟨⟨t, u, w, hR⟩, _⟩ := I1.hok a _ ea
  refine wpAny_pyIter_range hR (small_one b1 b2 b3 b4) ?_
  refine ⟨s1.heap.objs.size, [s1.heap.objs.size], _, _, H1, rfl, I1.kept (t' := s1.toks) fun b o e => Heap.get?_push_of_some _ e, turn_range _ lo (hi - lo).toNat, ?_, fun b hb => ?_, q⟩
  · show IsRangeIter _ _ (lo + ((0 : Nat) : Int) * 1) ((((hi - lo).toNat : Nat) : Int) - ((0 : Nat) : Int)) 1
    have e1 : lo + ((0 : Nat) : Int) * 1 = lo := by simp
    have e2 : (((hi - lo).toNat : Nat) : Int) - ((0 : Nat) : Int) = Builtin.Range.rangeSize lo hi 1 := by
      rw [rangeSize_one]
      split <;> omega
    rw [e1, e2]
    exact Heap.get?_push_size _ rfl
  · obtain rfl : b = s1.heap.objs.size := by simpa using hb
    exact I1.fpOk (Nat.le_refl _) (I1.hok.fresh (Nat.le_refl _))
end
section
variable {W : Wd} {Γ : Gam} {ta : TA} {te tb tl tl2 : TE} {tt2 : TT} {g g2 : TG} {K : PySem.W.Frag}
theorem ev_rg {k : Rg → Prop} (h : EvA W ta Γ fun ts => ∃ j : Int, ts = [T j] ∧ k ⟨0, j⟩) : EvK W (tRg ta) Γ k := by
  refine fun σ H Q G c => h σ H _ G fun vs H1 ts e1 d ⟨j, et, z⟩ => ?_
  subst et
  cases d with
  | cons d1 d2 =>
  cases d2
  refine ⟨j, by rw [show _ = V.int j from d1], fun p hp => ?_⟩
  exact c (.ref p) _ ⟨0, j⟩ (e1.trans (Ext.new e1.ok hp)) ⟨p, rfl, fresh_mu e1.ok hp, upd_same⟩ z
/-- [te for i in r for j in r2 if tt] over kept ranges from 0 -/
def Lc2R {γ : Type} [Rep γ] (W0 W : Wd) (g : TG) (tl2 : TE) (g2 : TG) (tt2 : TT) (te : TE) (vs vs1 : List Nat) (Γ : Gam) (i : Nat) (m : Nat) (p : Nat → Bool) (f : Nat → γ) : Prop :=
  ∃ js : List Nat, (js.all fun j => vs.contains j) = true ∧ Tj W js g (wipeE Γ vs) (i : Int) fun Γ1 => EvK W tl2 Γ1 fun r : Rg => r.lo = 0 ∧ r.hi = m ∧
    ∀ W', Sub W0 W' → ∀ j, j < m → ∃ js2 : List Nat, (js2.all fun j => vs1.contains j) = true ∧ Tj W' js2 g2 (wipeE Γ1 vs1) (j : Int) fun Γ2 => EvT W' tt2 Γ2 fun b => b = p j ∧ (b = true → EvK W' te Γ2 fun y : γ => y = f j)
def gridF {γ : Type} (n m : Nat) (p : Nat → Nat → Bool) (f : Nat → Nat → γ) : List γ := (List.range n).flatMap fun i => ((List.range m).filter (p i)).map (f i)
theorem ev_lc2R {γ : Type} {rγ : Rep γ} {vs vs1 : List Nat} {m : Nat} (p : Nat → Nat → Bool) (f : Nat → Nat → γ) {k : List γ → Prop}
    (h : EvK W tl Γ fun r : Rg => ∃ n : Nat, r.lo = 0 ∧ r.hi = n ∧ n ≤ 300 ∧ m ≤ 300 ∧ (∀ W', Sub W W' → ∀ i, i < n → Lc2R W W' g tl2 g2 tt2 te vs vs1 Γ i m (p i) (f i)) ∧ k (gridF n m p f)) :
    EvK W (tLc2 (iRgV tl) g tYes (iRgV tl2) g2 tt2 te vs vs1) Γ k := by
  intro σ H Q G c
  refine h σ H _ G fun v H1 r e1 ⟨a, hv, hm, ha⟩ ⟨n, hlo, hhi, hn, hmm, hs, hk⟩ => ⟨a, r.lo, r.hi, hv, ha, ⟨by omega, by omega, by omega, by omega⟩, fun D nD => ?_⟩
  have G1 := G.ext e1
  have nm : ¬ W.mu D := fresh_mu e1.ok nD
  have hnn : (r.hi - r.lo).toNat = n := by omega
  rw [hlo, hhi]
  have hn2 : ((n : Int) - 0).toNat = n := by omega
  rw [hn2]
  let P : List γ → Hp → Prop := fun ys H' => Ext W H1 H' ∧ ∃ us, H' D = some (.lst us) ∧ Dl (den (W.toWc.plus D) H') us ys
  let row : Nat → List γ := fun i => ((List.range m).filter (p i)).map (f i)
  have hrow : ∀ i, (row i).length ≤ m := fun i => by
    show (((List.range m).filter (p i)).map (f i)).length ≤ m
    rw [List.length_map]
    exact Nat.le_trans (List.length_filter_le _ _) (by rw [List.length_range]; exact Nat.le_refl _)
  have hpre : ∀ i, ((List.range i).flatMap row).length ≤ i * m := by
    intro i
    induction i with
    | zero => simp
    | succ i ih =>
      rw [List.range_succ, List.flatMap_append, List.length_append]
      simp only [List.flatMap_cons, List.flatMap_nil, List.append_nil]
      have := hrow i
      rw [Nat.succ_mul]
      omega
  have big : ∀ {i l : Nat}, i < n → l ≤ i * m + m → l < sizeLine := fun {i l} hi hl => by
    have h1 : i * m ≤ 300 * 300 := Nat.mul_le_mul (by omega) hmm
    exact Nat.lt_of_le_of_lt (Nat.le_trans hl (by omega : i * m + m ≤ 100000)) (by decide)
  refine turns (J := Itr 0 n) (n := n) (fun i H' => P ((List.range i).flatMap row) H') ⟨Ext.new e1.ok nD, [], upd_same, .nil⟩ (fun i H' hi _ => hi) (fun H' _ => Nat.le_refl _) ?_ ?_
  · rintro i H' x H'' hi ⟨e, ws, hD, hw⟩ ⟨rfl, hx⟩
    have hx' : x = V.int (i : Nat) := by rw [hx, Int.zero_add]
    have htk : (List.range (i + 1)).flatMap row = (List.range i).flatMap row ++ row i := by
      rw [List.range_succ, List.flatMap_append]
      simp
    obtain ⟨js, hjs, tj⟩ := hs _ (Sub.plusO (o := .lst ws) (n := nD) (o1 := e1.ok) (w1 := G1.wish)) i hi
    have kp : Kp (W.toWc.plus D) H1 H'' := fun b o mb z => e.keep b o (fun z => mb (.inl z)) z
    have G2 : GOk (W.plusO D (.lst ws) H1 nD e1.ok G1.wish) H'' σ Γ := ⟨⟨e.ok, hD⟩, fun b o mb z => e.keep b o mb z, fun j t hj => by
      obtain ⟨u, h1, h2⟩ := G1.at_ j t hj
      exact ⟨u, h1, Ty.mono kp (t.r.grow D nD h2)⟩, G1.len⟩
    refine tj (wipe σ vs) H'' x _ (G2.wipe vs) hx' fun σ2 Γ2 G3 m2 q2 => ⟨wipe_same m2 (js_in hjs), ?_⟩
    refine yes_in ?_
    refine q2 σ2 H'' _ G3 fun u H4 r2 e4 ⟨a2, hv2, hm2, ha2⟩ ⟨hl2, hh2, turn⟩ => ⟨a2, r2.lo, r2.hi, hv2, ha2, ⟨by omega, by omega, by omega, by omega⟩, ?_⟩
    rw [hl2, hh2, show ((m : Int) - 0).toNat = m by omega]
    have back4 : Ext W H1 H4 := ⟨fun b o mb z => by
      have hne : b ≠ D := fun q => by rw [q, nD] at z; cases z
      exact e4.keep b o (fun q => q.elim mb hne) (e.keep b o mb z), e4.ok.1⟩
    have hD4 : H4 D = some (.lst ws) := e4.ok.2
    have hw4 : Dl (den (W.toWc.plus D) H4) ws ((List.range i).flatMap row) := hw.imp fun _ _ d => Rep.mono (W := W.toWc.plus D) e4.keep d
    have G4 := G3.ext e4
    refine turns (J := Itr 0 m) (n := m) (fun j H' => Kp (W.toWc.plus D) H4 H' ∧ P ((List.range i).flatMap row ++ ((List.range j).filter (p i)).map (f i)) H') ⟨fun _ _ _ z => z, back4, ws, hD4, by simpa using hw4⟩ (fun j H' hj _ => hj) (fun H' _ => Nat.le_refl _) ?_ ?_
    · rintro j H5 y H6 hj ⟨k5, e5, ws5, hD5, hw5⟩ ⟨rfl, hy⟩
      have hy' : y = V.int (j : Nat) := by rw [hy, Int.zero_add]
      have hlen5 : ((List.range i).flatMap row ++ ((List.range j).filter (p i)).map (f i)).length ≤ i * m + m := by
        rw [List.length_append, List.length_map]
        have h1 := hpre i
        have h2 := List.length_filter_le (p i) (List.range j)
        rw [List.length_range] at h2
        omega
      obtain ⟨js2, hjs2, tj2⟩ := turn _ (Sub.plusO (o := .lst ws5) (n := nD) (o1 := e1.ok) (w1 := G1.wish)) j hj
      have G6 : GOk (W.plusO D (.lst ws5) H1 nD e1.ok G1.wish) H6 σ2 Γ2 := ⟨⟨e5.ok, hD5⟩, fun b o mb z => e5.keep b o mb z, fun q t hq => by
        obtain ⟨u, h1, h2⟩ := G4.at_ q t hq
        exact ⟨u, h1, Ty.mono (W := W.toWc.plus D) k5 h2⟩, G4.len⟩
      refine tj2 (wipe σ2 vs1) H6 y _ (G6.wipe vs1) hy' fun σ3 Γ3 G7 m3 q3 => ⟨wipe_same m3 (js_in hjs2), ?_⟩
      refine q3 σ3 H6 _ G7 fun H7 b e7 ⟨hb, hte⟩ => ?_
      have e7' : Ext W H1 H7 := ⟨fun b o mb z => by
        have hne : b ≠ D := fun q => by rw [q, nD] at z; cases z
        exact e7.keep b o (fun q => q.elim mb hne) (e5.keep b o mb z), e7.ok.1⟩
      have htk2 : ((List.range (j + 1)).filter (p i)).map (f i) = ((List.range j).filter (p i)).map (f i) ++ (if p i j = true then [f i j] else []) := by
        rw [List.range_succ, List.filter_append, List.map_append]
        congr 1
        cases hpj : p i j <;> simp [hpj]
      cases b with
      | false =>
        show Kp _ _ _ ∧ P _ _
        rw [htk2, if_neg (by rw [← hb]; decide), List.append_nil]
        exact ⟨fun b o mb z => e7.keep b o mb (k5 b o mb z), e7', ws5, e7.ok.2, hw5.imp fun _ _ d => Rep.mono (W := W.toWc.plus D) e7.keep d⟩
      | true =>
        show te σ3 H7 _
        refine hte rfl σ3 H7 _ (G7.ext e7) fun yv H8 c0 e8 hc0 hcb => ⟨ws5, e8.ok.2, big hi (by rw [hw5.length]; exact hlen5), ?_⟩
        have e8' : Ext W H1 H8 := ⟨fun b o mb z => by
          have hne : b ≠ D := fun q => by rw [q, nD] at z; cases z
          exact e8.keep b o (fun q => q.elim mb hne) (e7'.keep b o mb z), e8.ok.1⟩
        have kU : Kp (W.toWc.plus D) H8 (upd H8 D (.lst (ws5 ++ [yv]))) := fun b o mb z => by
          have hne : b ≠ D := fun q => mb (.inr q)
          rw [upd_ne hne]
          exact z
        refine ⟨fun b o mb z => kU b o mb (e8.keep b o mb (e7.keep b o mb (k5 b o mb z))), ⟨fun b o mb z => ?_, W.st _ _ _ e8'.ok nm⟩, ws5 ++ [yv], upd_same, ?_⟩
        · have hne : b ≠ D := fun q => by rw [q, nD] at z; cases z
          rw [upd_ne hne]
          exact e8'.keep b o mb z
        · rw [htk2, if_pos hb.symm, ← List.append_assoc]
          refine Dl.append (hw5.imp fun _ _ d => Rep.mono (W := W.toWc.plus D) kU (Rep.mono (W := W.toWc.plus D) e8.keep (Rep.mono (W := W.toWc.plus D) e7.keep d))) (.cons ?_ .nil)
          rw [← hcb]
          exact Rep.mono (W := W.toWc.plus D) kU hc0
    · rintro H' ⟨k', p'⟩
      show P _ _
      rw [htk]
      exact p'
  · rintro H' ⟨e, us, hD, hw⟩
    exact c (.ref D) H' (gridF n m p f) (e1.trans e) ⟨D, us, rfl, ⟨nm, hD⟩, hw.imp fun _ _ d => Rep.shrink D d⟩ hk
end
section
variable {W : Wd} {F : Hp} {L : Own} {Γ : Gam} {ta tb : TE} {g : TG} {t : TS} {R : PoM}
/-- for x in range(lo, hi), with own lists -/
theorem sxm_forR2 (h : ∀ Wo, OwnW W L Wo → EvK Wo ta Γ fun lo : Int => EvK Wo tb Γ fun hi : Int => (-(2 ^ 62) ≤ lo ∧ lo < 2 ^ 62 ∧ -(2 ^ 62) ≤ hi ∧ hi < 2 ^ 62) ∧ ∃ I : Nat → Own → Gam → Prop, I 0 L Γ ∧
      (∀ (i : Nat) L' Γ', i < (hi - lo).toNat → I i L' Γ' → ∀ Wo', OwnW W L' Wo' → Tg Wo' g Γ' (lo + (i : Int)) fun Γ1 => SxM W F t L' Γ1 { R with nx := I (i + 1), ct := I (i + 1), bk := R.nx }) ∧ ∀ L' Γ', I (hi - lo).toNat L' Γ' → R.nx L' Γ') : SxM W F (tFor (iRng2 (tCons ta (tCons tb tNil))) g t) L Γ R := by
  refine fun D σ H oF nF wF nd G O => h _ (own_w wF) σ H _ G fun va H0 lo e0 hva h1 => h1 σ H0 _ (G.ext e0) fun vb H1 hi e1 hvb ⟨⟨b1, b2, b3, b4⟩, I, h0, hs, hl⟩ => ?_
  have e01 := e0.trans e1
  have G1 := G.ext e01
  have O1 := O.step G1.ok.1 (own_stp e01)
  refine ⟨lo, hi, by rw [show va = V.int lo from hva, show vb = V.int hi from hvb], ⟨b1, b2, b3, b4⟩, ?_⟩
  refine for_range (lo := lo) (n := (hi - lo).toNat) (fun i σ' H' => ∃ L' oF nF Γ', Stp W L H1 L' H' ∧ (keys L').Nodup ∧ GOk (W.own F L' oF nF) H' σ' Γ' ∧ I i L' Γ') ⟨L, oF, nF, Γ, .refl, nd, G1, h0⟩ ?_ ?_
  · rintro i σ' H' hi' ⟨L', oF', nF', Γ', s, nd', G', q⟩
    obtain ⟨js, hj⟩ := hs i L' Γ' hi' q _ (own_w (oF := oF') (nF := nF') wF)
    refine hj σ' H' _ _ G' rfl fun σ2 Γ2 G2 _ q2 => ?_
    exact q2 _ σ2 H' oF' nF' wF nd' G2 ⟨fun L3 oF3 nF3 σ3 H3 Γ3 s3 nd3 G3 q3 => ⟨L3, oF3, nF3, Γ3, s.trans G'.ok.1 s3, nd3, G3, q3⟩, fun v3 H3 t3 e3 d3 q3 => O.rt v3 H3 t3 e3 d3 q3,
      fun L3 oF3 nF3 σ3 H3 Γ3 s3 nd3 G3 q3 => O1.nx L3 oF3 nF3 σ3 H3 Γ3 (s.trans G'.ok.1 s3) nd3 G3 q3, fun L3 oF3 nF3 σ3 H3 Γ3 s3 nd3 G3 q3 => ⟨L3, oF3, nF3, Γ3, s.trans G'.ok.1 s3, nd3, G3, q3⟩⟩
  · rintro σ' H' ⟨L', oF', nF', Γ', s, nd', G', q⟩
    exact O1.nx L' oF' nF' σ' H' Γ' s nd' G' (hl L' Γ' q)
end
end G
set_option Elab.async false
set_option linter.all false
set_option maxRecDepth 100000
set_option maxHeartbeats 2000000
namespace G
open PySem PySem.Spec PyProof.Rows L2 StX
/-! ### pairs that lie apart -/
def apP (p q : Int × Int) : Bool := decide (p.2 < q.1) || decide (q.2 < p.1)
def apAt (ps : List (Int × Int)) (i j : Nat) : Bool := match ps[i]?, ps[j]? with
  | some p, some q => apP p q
  | _, _ => false
theorem apAt_of {ps : List (Int × Int)} {i j : Nat} {p q : Int × Int} (h1 : ps[i]? = some p) (h2 : ps[j]? = some q) : apAt ps i j = apP p q := by
  unfold apAt
  rw [h1, h2]
def clF (ps : List (Int × Int)) : List (Int × Int) := gridF ps.length ps.length (fun i j => decide (i < j) && apAt ps i j) fun i j => ((i : Int), (j : Int))
def rowK (ps : List (Int × Int)) (i k : Nat) : List (Int × Int) := ((List.range k).filter fun t => apAt ps i (i + 1 + t)).map fun t => ((i : Int), ((i + 1 + t : Nat) : Int))
def dueF (ps : List (Int × Int)) (i : Nat) : List (Int × Int) := (List.range i).flatMap fun i => rowK ps i (ps.length - (i + 1))
theorem rowK_more (ps : List (Int × Int)) (i k : Nat) : rowK ps i (k + 1) = rowK ps i k ++ (if apAt ps i (i + 1 + k) = true then [((i : Int), ((i + 1 + k : Nat) : Int))] else []) := by
  unfold rowK
  rw [List.range_succ, List.filter_append, List.map_append]
  congr 1
  cases h : apAt ps i (i + 1 + k) <;> simp [h]
theorem dueF_more (ps : List (Int × Int)) (i : Nat) : dueF ps (i + 1) = dueF ps i ++ rowK ps i (ps.length - (i + 1)) := by
  unfold dueF
  rw [List.range_succ, List.flatMap_append]
  simp
theorem row_eq {n i : Nat} (hi : i < n) (A : Nat → Bool) : (List.range n).filter (fun j => decide (i < j) && A j) = ((List.range (n - (i + 1))).filter fun t => A (i + 1 + t)).map fun t => i + 1 + t := by
  have hn : n = (i + 1) + (n - (i + 1)) := by omega
  have e : List.range n = List.range (i + 1) ++ (List.range (n - (i + 1))).map fun t => i + 1 + t := by
    conv => lhs; rw [hn]
    exact List.range_add
  rw [e, List.filter_append, List.filter_map]
  have h1 : (List.range (i + 1)).filter (fun j => decide (i < j) && A j) = [] := by
    rw [List.filter_eq_nil_iff]
    intro j hj
    have := List.mem_range.mp hj
    rw [decide_eq_false (by omega), Bool.false_and]
    exact Bool.false_ne_true
  rw [h1, List.nil_append]
  congr 1
  refine List.filter_congr fun t _ => ?_
  show (decide (i < i + 1 + t) && A (i + 1 + t)) = _
  rw [decide_eq_true (by omega)]
  rfl
theorem clF_due (ps : List (Int × Int)) : clF ps = dueF ps ps.length := by
  have key : ∀ n, n ≤ ps.length → (List.range n).flatMap (fun i => ((List.range ps.length).filter fun j => decide (i < j) && apAt ps i j).map fun j : Nat => ((i : Int), (j : Int))) = dueF ps n := by
    intro n
    induction n with
    | zero => intro _; rfl
    | succ n ih =>
      intro hn
      rw [dueF_more, ← ih (by omega), List.range_succ, List.flatMap_append]
      congr 1
      simp only [List.flatMap_cons, List.flatMap_nil, List.append_nil]
      rw [row_eq (by omega), List.map_map]
      rfl
  exact key ps.length (Nat.le_refl _)
theorem due_nil {ps : List (Int × Int)} : dueF ps ps.length = [] ↔ ∀ i j, i < j → j < ps.length → apAt ps i j = false := by
  unfold dueF rowK
  rw [List.flatMap_eq_nil_iff]
  constructor
  · intro h i j hij hj
    have h1 := h i (List.mem_range.mpr (by omega))
    rw [List.map_eq_nil_iff, List.filter_eq_nil_iff] at h1
    have h2 := h1 (j - (i + 1)) (List.mem_range.mpr (by omega))
    rw [show i + 1 + (j - (i + 1)) = j by omega] at h2
    simpa using h2
  · intro h i hi
    have hi' := List.mem_range.mp hi
    rw [List.map_eq_nil_iff, List.filter_eq_nil_iff]
    intro t ht
    have ht' := List.mem_range.mp ht
    rw [h i (i + 1 + t) (by omega) (by omega)]
    decide
theorem due_common {ps : List (Int × Int)} {x : Int} (h : ∀ p ∈ ps, p.1 ≤ x ∧ x ≤ p.2) : dueF ps ps.length = [] := by
  rw [due_nil]
  intro i j hij hj
  rw [apAt_of (List.getElem?_eq_getElem (by omega : i < ps.length)) (List.getElem?_eq_getElem hj)]
  have a := h _ (List.getElem_mem (by omega : i < ps.length))
  have b := h _ (List.getElem_mem hj)
  unfold apP
  rw [decide_eq_false (by omega), decide_eq_false (by omega)]
  rfl
theorem due_top {ps : List (Int × Int)} {top : Int} (ho : ∀ p ∈ ps, p.1 ≤ p.2) (h : dueF ps ps.length = []) (h1 : top ∈ ps.map fun p => p.1) (h2 : ∀ y ∈ ps.map (fun p => p.1), y ≤ top) : ∀ p ∈ ps, p.1 ≤ top ∧ top ≤ p.2 := by
  rw [due_nil] at h
  obtain ⟨p0, hp0, e0⟩ := List.mem_map.mp h1
  obtain ⟨k, hk, ek⟩ := List.getElem_of_mem hp0
  intro p hp
  obtain ⟨m, hm, em⟩ := List.getElem_of_mem hp
  refine ⟨h2 _ (List.mem_map.mpr ⟨p, hp, rfl⟩), ?_⟩
  have c := ho p hp
  have e0' : p0.1 = top := e0
  have gk : ps[k]? = some p0 := by rw [List.getElem?_eq_getElem hk, ek]
  have gm : ps[m]? = some p := by rw [List.getElem?_eq_getElem hm, em]
  rcases Nat.lt_trichotomy m k with q | q | q
  · have z := h m k q hk
    rw [apAt_of gm gk] at z
    unfold apP at z
    rw [Bool.or_eq_false_iff, decide_eq_false_iff_not, decide_eq_false_iff_not] at z
    omega
  · subst q
    rw [gm] at gk
    cases gk
    omega
  · have z := h k m q hm
    rw [apAt_of gk gm] at z
    unfold apP at z
    rw [Bool.or_eq_false_iff, decide_eq_false_iff_not, decide_eq_false_iff_not] at z
    omega
theorem depS_all {ss : List Stc} {x : Int} : depS ss x = ss.length ↔ ∀ s ∈ ss, s.lo ≤ x ∧ x ≤ s.hi := by
  unfold depS
  constructor
  · intro h s hs
    have h' : (ss.filter (inS x)).length = ss.length := by omega
    exact inS_iff.mp (List.length_filter_eq_length_iff.mp h' s hs)
  · intro h
    have h' : (ss.filter (inS x)).length = ss.length := List.length_filter_eq_length_iff.mpr fun s hs => inS_iff.mpr (h s hs)
    omega
end G
set_option Elab.async false
set_option linter.all false
set_option maxRecDepth 100000
set_option maxHeartbeats 2000000
namespace G
open PySem PySem.Spec PyProof.Rows L2 StX
/-! ### a try with several clauses that have names -/
abbrev Cls := Value × Nat × (Addr → Value → Option Addr → TS)
def wNam (K : PySem.W.Frag) (Wout : WX) (D : Ends) : List Cls → WX
  | [] => Wout
  | (c, i, ts) :: r => wAs K c i ts (wNam K Wout D r) D
inductive HdsN (X : Cx) : List ExceptHandler → List Cls → Prop
  | nil : HdsN X [] []
  | cons {y n : Str} {c : Value} {i : Nat} {ts : Addr → Value → Option Addr → TS} {st : Stmt} {sts : List Stmt} {np p2 : Pos} {hds : List ExceptHandler} {l : List Cls} (hi : X.N[i]? = some n) (hln : X.env.kindOf n = some .local) (hc : Names X y c)
      (hsu : ∀ (a : Addr) (o : Obj) (cls : Value) (d : Option Addr) (pn : List (Addr × Obj)), Zc cls d o → (∃ vs, o.data = .fields vs) → PSs (X.suite a ((a, o) :: pn)) (st :: sts) (ts a cls d)) (r : HdsN X hds l) :
      HdsN X (.ExceptHandler (some (.Name y np)) (some n) (st :: sts) p2 :: hds) ((c, i, ts) :: l)
section
variable {X : Cx} {body : List Stmt} {h0 : ExceptHandler} {hds : List ExceptHandler} {l : List Cls} {pos : Pos} {tb : WX → TS} {Wout : WX}
theorem ps_tryN (hs : X.stack = X.env :: X.outer) (hf : X.env.frame = some X.env.locals) (hN : X.N.Nodup) (tk : Takes X Wout)
    (hb : ∀ (W : WX) (pn : List (Addr × Obj)) (xe : Value → Shared → Prop), Takes (X.tr pn xe) W → PassesOwn (model X.prog X.w) X.A X.env xe → PSs (X.tr pn xe) body (tb W))
    (hh : HdsN X (h0 :: hds) l) : PS X (.Try body (h0 :: hds) [] [] pos) (fun D σ H => tb (wNam X.K Wout D l) D σ H) := by
  refine ⟨fun pins s σ H D I h => ?_⟩
  have k0 := I.ok
  have fr0 : X.A.frames = some (X.env :: X.outer) := (hs ▸ k0.frames)
  let after : Value → Shared → Prop := fun e z => wpAny (model X.prog X.w) X.A (noteFrame e X.env) (fun _ z2 => wpAny (model X.prog X.w) X.A (setFlight e none) (fun _ z3 => wpAny (model X.prog X.w) X.A (handleBy e X.env (h0 :: hds)) (SP X pins D) X.xe z3) X.xe z2) X.xe z
  refine wpAny_Try_except (wpAny_mono ((hb (wNam X.K Wout D l) (X.pn ++ pins) after (fun u z xx => ?_) PassesOwn.looking).run [] s σ H D (I.toTry _) h) (fun f z hz => ?_) fun _ _ y => y)
  · obtain ⟨a, B, sI, qins, σa, Ha, cls, d, rfl, Ja, nb, up, sk, na, os, ag, wish⟩ := xx
    have J := Ja.ofTry k0
    have sk2 : Sky B (X.env :: X.outer) a (Zc cls d) X.env.locals z.heap := hs ▸ sk
    show wpAny _ X.A (noteFrame (.ref a) X.env) _ _ z
    refine Sky.land Zc.steady fr0 hf sk2 fun hp fl upp => ?_
    have JL : L2.Inv X pins σa Ha { z with heap := hp } := J.landed nb fl.1 (up.trans upp) os ag
    obtain ⟨oe, flds, look, zc, data⟩ := fl.there
    have outside : a ∉ frs (X.env :: X.outer) := fun hm => by
      obtain ⟨_, o2, look2, hne⟩ := fl.2.2.1.mem hm
      cases look.symm.trans look2
      exact hne _ data
    have notL : a ≠ X.env.locals := fun e => outside (List.mem_filterMap.mpr ⟨X.env, List.mem_cons_self, hf.trans (congrArg some e.symm)⟩)
    have notF : a ∉ X.fs := fun hm => by
      obtain ⟨v, hv, q⟩ := List.mem_filterMap.mp hm
      exact outside (List.mem_filterMap.mpr ⟨v, List.mem_cons_of_mem _ hv, q⟩)
    have SL := JL.suite look data na notL notF
    have run : ∀ {gs : List ExceptHandler} {m : List Cls}, HdsN X gs m → wNam X.K Wout D m cls d σa Ha → wpAny (model X.prog X.w) X.A (handleBy (.ref a) X.env gs) (SP X pins D) X.xe { z with heap := hp } := by
      intro gs m hk
      induction hk with
      | nil =>
        intro w
        obtain ⟨_, _, _, o3, vs3, tb3, ob3, tk3, look3, _, data3, at3, _⟩ := id fl
        have fin : wpAny (model X.prog X.w) X.A (setFlight (.ref a) X.env.frame) (fun _ z4 => wpAny (model X.prog X.w) X.A (throw (.ref a) : Sem Flow) (SP X pins D) X.xe z4) X.xe { z with heap := hp } := by
          rw [hf]
          exact HandSPX.setFlight_upZ fl fun h4 in4 up4 => wpAny_throw (tk _ _ ⟨a, B, sI, pins, σa, Ha, cls, d, rfl, J, nb, (up.trans upp).trans up4, .inr (.inr (hs.symm ▸ in4)), na, os, ag, w⟩)
        refine wpAny_handleBy_nil ?_
        unfold PySem.passOn
        refine wpAny_bind (wpAny_field look3 data3 at3 ?_)
        rw [if_neg (by simp : ¬ ((Value.ref tb3 == Value.none) = true))]
        first | exact wpAny_bind fin | exact wpAny_bind (wpAny_pure (wpAny_bind fin))
      | @cons y n c i ts st sts np p2 gs2 m2 hi hln hc hsu r ih =>
        rintro ⟨b, isit, yes, no⟩
        refine wpAny_handleBy_cons (codeAny_handlers_test ?_) (fun q => nomatch q)
        have LM := PySem.W.exm_one (M := model X.prog X.w) JL.kIn (fun A Q E z k q => wpAny_typeOf_ref (k _ _ look) (zc.1 ▸ q)) isit
        have name : ∀ {Q E : Value → Shared → Prop}, Q c { z with heap := hp } → wpAny (model X.prog X.w) (X.A.mark (some (.ref a))) (eval (.Name y np) X.env) Q E { z with heap := hp } := fun q => by
          rcases hc with ⟨g1, g2, g3 | ⟨g3, g4, g5⟩⟩
          · exact ld_glob (X := X.suite a ((a, oe) :: (X.pn ++ pins))) SL g1 g3 q g2
          · exact ld_blt (X := X.suite a ((a, oe) :: (X.pn ++ pins))) SL g1 g3 g4 q g5 g2
        refine name (LM.here ?_)
        cases b with
        | false => exact ih (no rfl)
        | true =>
          refine codeAny_handlers_suite_as (HandSPX.lands_againZ fl fun h5 fl5 up5 => ?_)
          obtain ⟨o5, vs5, look5, zc5, data5⟩ := fl5.there
          have J5 : L2.Inv X pins σa Ha { z with heap := h5 } := J.landed nb fl5.1 ((up.trans upp).trans up5) os ag
          refine store_ok (X := X.suite a ((a, o5) :: (X.pn ++ pins))) (v := .ref a) (J5.suite look5 data5 na notL notF) hN hi (.inl hln) rfl (fun z6 S6 => ?_) (.inr hln)
          refine wpAny_mono ((hsu a o5 cls d (X.pn ++ pins) zc5 ⟨_, data5⟩).run [] z6 _ Ha _ S6 (yes rfl a na)) (fun f z7 hz7 => ?_) fun _ _ q => q.elim
          have off : ∀ {σ7 : L2.St} {H7 : Hp} {Q : Shared → Prop}, L2.Inv (X.suite a ((a, o5) :: (X.pn ++ pins))) [] σ7 H7 z7 → (∀ z8, L2.Inv X pins (σ7.set i none) H7 z8 → Q z8) →
              wpAny (model X.prog X.w) X.A (do bindName X.env n .none; unbindBehindTheSuite X.env n p2) (fun _ z8 => Q z8) X.xe z7 := fun S7 q => gone_ok (S7.unsuite k0) hN hi hln q
          cases f with
          | ret u => obtain ⟨v7, σ7, H7, S7, r7, q7⟩ := hz7; exact off S7 fun _ K8 => ⟨_, _, _, K8, r7, q7⟩
          | next => obtain ⟨σ7, H7, S7, q7⟩ := hz7; exact off S7 fun _ K8 => ⟨_, _, K8, q7⟩
          | brk => obtain ⟨σ7, H7, S7, q7⟩ := hz7; exact off S7 fun _ K8 => ⟨_, _, K8, q7⟩
          | cont => obtain ⟨σ7, H7, S7, q7⟩ := hz7; exact off S7 fun _ K8 => ⟨_, _, K8, q7⟩
    exact run hh wish
  · cases f with
    | ret u => obtain ⟨v, σb, Hb, Jb, rb, qb⟩ := hz; exact ⟨v, σb, Hb, Jb.ofTry k0, rb, qb⟩
    | next => obtain ⟨σb, Hb, Jb, qb⟩ := hz; exact wpAny_execs_nil ⟨σb, Hb, Jb.ofTry k0, qb⟩
    | brk => obtain ⟨σb, Hb, Jb, qb⟩ := hz; exact ⟨σb, Hb, Jb.ofTry k0, qb⟩
    | cont => obtain ⟨σb, Hb, Jb, qb⟩ := hz; exact ⟨σb, Hb, Jb.ofTry k0, qb⟩
end
end G
namespace G
open PySem PySem.Spec PyProof.Rows L2 StX
section
variable {W : Wd} {Γ : Gam} {R : Po} {K : PySem.W.Frag}
/-- what stands behind a clause whose name stands in slot i -/
def unN (R : Po) (i : Nat) : Po := { nx := fun Γ' => R.nx (Γ'.set i none), rt := R.rt, bk := fun Γ' => R.bk (Γ'.set i none), ct := fun Γ' => R.ct (Γ'.set i none) }
/-- a clause takes errors of this kind, and what it does is right -/
def CaughtN (K : PySem.W.Frag) (W : Wd) (Γ : Gam) (R : Po) (n : Xn) : List Cls → Prop
  | [] => False
  | (c, i, ts) :: r => (PySem.W.exmOne K (.ref (W.B.cl n.c)) c = some true ∧ ∀ a d, Sx W (ts a (.ref (W.B.cl n.c)) d) (Γ.set i (some (T (Er.mk a d n)))) (unN R i)) ∨ (PySem.W.exmOne K (.ref (W.B.cl n.c)) c = some false ∧ CaughtN K W Γ R n r)
theorem caughtN_run {Wout : WX} {D : Ends} {H2 : Hp} {σ : L2.St} {n : Xn} {d : Option Addr} (G2 : GOk W H2 σ Γ) (O : EOk W H2 D R) (xd : xden W.toWc H2 d n.fs) : ∀ {l : List Cls}, CaughtN K W Γ R n l → wNam K Wout D l (.ref (W.B.cl n.c)) d σ H2
  | [], h => h.elim
  | (c, i, ts) :: r, .inl ⟨h1, h2⟩ => ⟨true, h1, fun _ a ha => h2 a d _ _ H2 (G2.set i (t := T (Er.mk a d n)) ⟨rfl, xd⟩) ⟨fun σ' H' Γ' e' G' q => O.nx _ H' _ e' (G'.unset i) q, fun v H' t e' dv q => O.rt v H' t e' dv q, fun σ' H' Γ' e' G' q => O.bk _ H' _ e' (G'.unset i) q, fun σ' H' Γ' e' G' q => O.ct _ H' _ e' (G'.unset i) q⟩, fun q => Bool.noConfusion q⟩
  | (c, i, ts) :: r, .inr ⟨h1, h2⟩ => ⟨false, h1, fun q => Bool.noConfusion q, fun _ => caughtN_run G2 O xd h2⟩
theorem sx_tryN {l : List Cls} {tb : WX → TS} {Wout : WX} (x : Xn → Prop)
    (hb : ∀ (W' : Wd) (Wx : WX), W'.B = W.B → HX W' Γ (WE Wx) x → Sx W' (tb Wx) Γ R) (hs : ∀ n, x n → CaughtN K W Γ R n l) :
    Sx W (fun D σ H => tb (wNam K Wout D l) D σ H) Γ R := fun D σ H G O => by
  have key : ∀ σ n d H2, Ext W H H2 → GOk W H2 σ Γ → xden W.toWc H2 d n.fs → x n → WE (wNam K Wout D l) σ (.ref (W.B.cl n.c)) d H2 := fun σ n d H2 e G2 xd xn => caughtN_run G2 (O.ext e) xd (hs n xn)
  refine hb (W.tr Γ (WE (wNam K Wout D l)) x) _ rfl (fun σ' H' G' n d H2 e xd xn => ?_) D σ H ⟨G.ok, ⟨G.wish, key⟩, G.at_, G.len⟩ ⟨fun σ' H' Γ' e' G' q => O.nx σ' H' Γ' e'.untr G'.untr q, fun v H' t e' dv q => O.rt v H' t e'.untr dv q, fun σ' H' Γ' e' G' q => O.bk σ' H' Γ' e'.untr G'.untr q, fun σ' H' Γ' e' G' q => O.ct σ' H' Γ' e'.untr G'.untr q⟩
  exact G'.wish.2 σ' n d H2 e.untr (G'.untr.ext e.untr) xd xn
end
end G
namespace G
open PySem PySem.Spec PyProof.Rows L2 StX
def tTryN (K : PySem.W.Frag) (l : Ends → WX) (tb : WX → TS) : TS := fun D σ H => tb (l D) D σ H
section
variable {X : Cx}
theorem call_boolLK (K : PySem.W.Frag) (h : X.K = K := by rfl) : CallR X (.type "bool") (fun xs H Q => ∃ (a : Addr) (zs : List V), xs = [.ref a] ∧ SqL K H a zs ∧ Q (.bl (!zs.isEmpty)) H) := by
  subst h
  exact call_boolL
end
section
variable {W : Wd} {Γ : Gam} {te : TE} {K : PySem.W.Frag}
theorem ev_boolL {α : Type} {rα : Rep α} {k : Bool → Prop} (hK : W.B.K = K) (h : EvK W te Γ fun as : List α => k (!as.isEmpty)) : EvK W (tCB (fun xs H Q => ∃ (a : Addr) (zs : List V), xs = [.ref a] ∧ SqL K H a zs ∧ Q (.bl (!zs.isEmpty)) H) (tCons te tNil)) Γ k := by
  subst hK
  refine fun σ H Q E c => h σ H _ E fun v H1 as e1 ⟨p, vs, hv, hp, hd⟩ z => ⟨p, vs, by rw [hv], hp.sq, c _ H1 _ e1 ?_ z⟩
  show V.bl (!vs.isEmpty) = V.bl (!as.isEmpty)
  cases hd <;> rfl
end
def lieF (ss : List Stc) (L : List (Int × Int)) : List Int := ((enumF ss).filter fun q => (meetF (unionF [stcE q.2]) L).isEmpty).map fun q => q.1
def honF (ss : List Stc) (a b : Int) : List Int := ((enumF ss).filter fun q => inS a q.2 && inS b q.2).map fun q => q.1
theorem enumF_mem {α : Type} {as : List α} {q : Int × α} (h : q ∈ enumF as) : q.2 ∈ as := by
  unfold enumF at h
  obtain ⟨r, hr, rfl⟩ := List.mem_map.mp h
  have := List.mem_zipIdx hr
  show r.1 ∈ as
  rw [this.2.2]
  exact List.getElem_mem _
end G
set_option Elab.async false
set_option linter.all false
set_option maxRecDepth 100000
set_option maxHeartbeats 2000000
namespace G
open PySem PySem.Spec PyProof.Rows L2 StX
/-! ### lists of two and of three of several kinds -/
structure Li2 (α β : Type) where
  a : α
  b : β
  deriving DecidableEq
structure Li3 (α β γ : Type) where
  a : α
  b : β
  c : γ
  deriving DecidableEq
instance {α β : Type} [Rep α] [Rep β] : Rep (Li2 α β) :=
  ⟨fun W H v t => ∃ p x y, v = .ref p ∧ Lq W H p [x, y] ∧ den W H x t.a ∧ den W H y t.b,
   fun e ⟨p, x, y, hv, s, h1, h2⟩ => ⟨p, x, y, hv, s.mono e, Rep.mono e h1, Rep.mono e h2⟩,
   fun D n ⟨p, x, y, hv, s, h1, h2⟩ => ⟨p, x, y, hv, s.grow D n, Rep.grow D n h1, Rep.grow D n h2⟩,
   fun D ⟨p, x, y, hv, s, h1, h2⟩ => ⟨p, x, y, hv, s.shrink D, Rep.shrink D h1, Rep.shrink D h2⟩⟩
instance {α β γ : Type} [Rep α] [Rep β] [Rep γ] : Rep (Li3 α β γ) :=
  ⟨fun W H v t => ∃ p x y z, v = .ref p ∧ Lq W H p [x, y, z] ∧ den W H x t.a ∧ den W H y t.b ∧ den W H z t.c,
   fun e ⟨p, x, y, z, hv, s, h1, h2, h3⟩ => ⟨p, x, y, z, hv, s.mono e, Rep.mono e h1, Rep.mono e h2, Rep.mono e h3⟩,
   fun D n ⟨p, x, y, z, hv, s, h1, h2, h3⟩ => ⟨p, x, y, z, hv, s.grow D n, Rep.grow D n h1, Rep.grow D n h2, Rep.grow D n h3⟩,
   fun D ⟨p, x, y, z, hv, s, h1, h2, h3⟩ => ⟨p, x, y, z, hv, s.shrink D, Rep.shrink D h1, Rep.shrink D h2, Rep.shrink D h3⟩⟩
theorem eqvL2 (a b c d : PyData) : PyData.eqv (.list [a, b]) (.list [c, d]) = (PyData.eqv a c && PyData.eqv b d) := by
  show (PyData.eqv a c && (PyData.eqv b d && true)) = _
  rw [Bool.and_true]
theorem eqvL3 (a b c d e f : PyData) : PyData.eqv (.list [a, b, e]) (.list [c, d, f]) = (PyData.eqv a c && (PyData.eqv b d && PyData.eqv e f)) := by
  show (PyData.eqv a c && (PyData.eqv b d && (PyData.eqv e f && true))) = _
  rw [Bool.and_true]
instance {α β : Type} [Rep α] [Rep β] [Dat α] [Dat β] : Dat (Li2 α β) where
  toD := fun x => .list [Dat.toD x.a, Dat.toD x.b]
  dp := fun ⟨p, x, y, hv, s, h1, h2⟩ => by
    subst hv
    exact .lst s.sq (.cons (Dat.dp h1) (.cons (Dat.dp h2) .nil))
  dep := max (Dat.dep α) (Dat.dep β) + 1
  ddep := fun x => by
    have h1 := Dat.ddep x.a
    have h2 := Dat.ddep x.b
    show max (Dat.toD x.a).depth (max (Dat.toD x.b).depth 0) + 1 ≤ _
    omega
  inj := fun x y => by
    rw [eqvL2, Bool.and_eq_true, Dat.inj, Dat.inj]
    cases x; cases y
    exact ⟨fun h => by obtain ⟨h1, h2⟩ := h; cases h1; cases h2; rfl, fun h => by cases h; exact ⟨rfl, rfl⟩⟩
  good := fun x => Dat.good x.a ∧ Dat.good x.b
  gshp := fun x h => by
    have h1 := Dat.gshp _ h.1
    have h2 := Dat.gshp _ h.2
    show ((Dat.toD x.a).canLay0 && ((Dat.toD x.b).canLay0 && true)) = true
    rw [h1, h2]
    rfl
instance {α β γ : Type} [Rep α] [Rep β] [Rep γ] [Dat α] [Dat β] [Dat γ] : Dat (Li3 α β γ) where
  toD := fun x => .list [Dat.toD x.a, Dat.toD x.b, Dat.toD x.c]
  dp := fun ⟨p, x, y, z, hv, s, h1, h2, h3⟩ => by
    subst hv
    exact .lst s.sq (.cons (Dat.dp h1) (.cons (Dat.dp h2) (.cons (Dat.dp h3) .nil)))
  dep := max (Dat.dep α) (max (Dat.dep β) (Dat.dep γ)) + 1
  ddep := fun x => by
    have h1 := Dat.ddep x.a
    have h2 := Dat.ddep x.b
    have h3 := Dat.ddep x.c
    show max (Dat.toD x.a).depth (max (Dat.toD x.b).depth (max (Dat.toD x.c).depth 0)) + 1 ≤ _
    omega
  inj := fun x y => by
    rw [eqvL3, Bool.and_eq_true, Bool.and_eq_true, Dat.inj, Dat.inj, Dat.inj]
    cases x; cases y
    exact ⟨fun h => by obtain ⟨h1, h2, h3⟩ := h; cases h1; cases h2; cases h3; rfl, fun h => by cases h; exact ⟨rfl, rfl, rfl⟩⟩
  good := fun x => Dat.good x.a ∧ Dat.good x.b ∧ Dat.good x.c
  gshp := fun x h => by
    have h1 := Dat.gshp _ h.1
    have h2 := Dat.gshp _ h.2.1
    have h3 := Dat.gshp _ h.2.2
    show ((Dat.toD x.a).canLay0 && ((Dat.toD x.b).canLay0 && ((Dat.toD x.c).canLay0 && true))) = true
    rw [h1, h2, h3]
    rfl
section
variable {W : Wd} {Γ : Gam} {ta tb tc : TE}
theorem ev_lst2 {α β : Type} {rα : Rep α} {rβ : Rep β} {k : Li2 α β → Prop} (h : EvK W ta Γ fun a : α => EvK W tb Γ fun b : β => k ⟨a, b⟩) : EvK W (tLst (tCons ta (tCons tb tNil))) Γ k := fun σ H Q E c =>
  h σ H _ E fun x H1 a e1 d1 h1 => h1 σ H1 _ (E.ext e1) fun y H2 b e2 d2 z => ⟨by show 2 ≤ sizeLine; decide, fun p hp =>
    have e3 := Ext.new (o := .lst [x, y]) e2.ok hp
    c _ _ ⟨a, b⟩ ((e1.trans e2).trans e3) ⟨p, x, y, rfl, Lq.new (fresh_mu e2.ok hp) upd_same, Rep.mono (e2.trans e3).keep d1, Rep.mono e3.keep d2⟩ z⟩
theorem ev_lst3 {α β γ : Type} {rα : Rep α} {rβ : Rep β} {rγ : Rep γ} {k : Li3 α β γ → Prop} (h : EvK W ta Γ fun a : α => EvK W tb Γ fun b : β => EvK W tc Γ fun c : γ => k ⟨a, b, c⟩) :
    EvK W (tLst (tCons ta (tCons tb (tCons tc tNil)))) Γ k := fun σ H Q E c =>
  h σ H _ E fun x H1 a e1 d1 h1 => h1 σ H1 _ (E.ext e1) fun y H2 b e2 d2 h2 => h2 σ H2 _ ((E.ext e1).ext e2) fun u H3 b3 e3 d3 z => ⟨by show 3 ≤ sizeLine; decide, fun p hp =>
    have e4 := Ext.new (o := .lst [x, y, u]) e3.ok hp
    c _ _ ⟨a, b, b3⟩ (((e1.trans e2).trans e3).trans e4) ⟨p, x, y, u, rfl, Lq.new (fresh_mu e3.ok hp) upd_same, Rep.mono ((e2.trans e3).trans e4).keep d1, Rep.mono (e3.trans e4).keep d2, Rep.mono e4.keep d3⟩ z⟩
end
theorem EvT.imp {W : Wd} {Γ : Gam} {tt : TT} {k k' : Bool → Prop} (h : EvT W tt Γ k) (i : ∀ b, k b → k' b) : EvT W tt Γ k' := fun σ H Q E q => h σ H Q E fun H' b e z => q H' b e (i b z)
/-! ### a try with several named clauses, as the texts say it -/
def tTryNK (K : PySem.W.Frag) (l : List Cls) (tb : WX → TS) (Wout : WX) : TS := fun D σ H => tb (wNam K Wout D l) D σ H
theorem ps_tryNK {X : Cx} {body : List Stmt} {h0 : ExceptHandler} {hds : List ExceptHandler} {l : List Cls} {pos : Pos} {tb : WX → TS} {Wout : WX} (K : PySem.W.Frag) (hs : X.stack = X.env :: X.outer) (hf : X.env.frame = some X.env.locals) (hN : X.N.Nodup) (tk : Takes X Wout)
    (hb : ∀ (W : WX) (pn : List (Addr × Obj)) (xe : Value → Shared → Prop), Takes (X.tr pn xe) W → PassesOwn (model X.prog X.w) X.A X.env xe → PSs (X.tr pn xe) body (tb W))
    (hh : HdsN X (h0 :: hds) l) (hK : X.K = K := by rfl) : PS X (.Try body (h0 :: hds) [] [] pos) (tTryNK K l tb Wout) := by subst hK; exact ps_tryN hs hf hN tk hb hh
theorem sx_tryNK {W : Wd} {Γ : Gam} {R : Po} {K : PySem.W.Frag} {l : List Cls} {tb : WX → TS} {Wout : WX} (x : Xn → Prop)
    (hb : ∀ (W' : Wd) (Wx : WX), W'.B = W.B → HX W' Γ (WE Wx) x → Sx W' (tb Wx) Γ R) (hs : ∀ n, x n → CaughtN K W Γ R n l) : Sx W (tTryNK K l tb Wout) Γ R := sx_tryN x hb hs
theorem exm_ofB {K : PySem.W.Frag} {E S : Addr} {b : Bool} (h1 : PySem.W.subIn K (.ref S) (.type "BaseException") = some true) (h2 : PySem.W.isClsIn K S = true) (h3 : PySem.W.typeIn K (.ref S) = some (.type "type")) (h4 : PySem.W.subIn K (.ref E) (.ref S) = some b) :
    PySem.W.exmOne K (.ref E) (.ref S) = some b := by
  have e1 : (PySem.W.subIn K (.ref S) (.type "BaseException") == some true) = true := by rw [h1] <;> rfl
  have e2 : ((PySem.W.clsIn K S).isSome && PySem.W.typeIn K (.ref S) == some (.type "type")) = true := by
    have h2' : (PySem.W.clsIn K S).isSome = true := h2
    rw [h2', h3] <;> rfl
  show (if (PySem.W.subIn K (.ref S) (.type "BaseException") == some true) = true then (if ((PySem.W.clsIn K S).isSome && PySem.W.typeIn K (.ref S) == some (.type "type")) = true then PySem.W.subIn K (.ref E) (.ref S) else none) else none) = some b
  rw [if_pos e1, if_pos e2]
  exact h4
theorem exm_atB {K : PySem.W.Frag} {W : Wd} {B : Bs} {c : Cn} {S C : Addr} {b : Bool} (h : W.B = B) (hc : B.cl c = C) (t : PySem.W.exmOne K (.ref C) (.ref S) = some b) : PySem.W.exmOne K (.ref (W.B.cl c)) (.ref S) = some b := by rw [h, hc]; exact t
end G
set_option Elab.async false
set_option linter.all false
set_option maxRecDepth 100000
set_option maxHeartbeats 2000000
namespace G
open PySem PySem.Spec PyProof.Rows L2 StX
/-! ### bool(o), o[i] of own objects -/
def rBoolO (C : Addr) (sp : Sp) (E : XK) : List V → Hp → VK → Prop := fun xs H Q => ∃ a dx fs, xs = [.ref a] ∧ H a = some (.ins C dx fs) ∧ sp [.ref a] H (fun v H' => ∃ b, v = .bl b ∧ Q (.bl b) H') E
def rIxO (C : Addr) (sp : Sp) (E : XK) : R2 := fun x y H Q => ∃ a dx fs, x = .ref a ∧ H a = some (.ins C dx fs) ∧ sp [x, y] H Q E
section
variable {X : Cx} {CX : CXT} {k n : Nat} {f g C p : Addr} {sp : Sp} {E : XK}
theorem call_boolO (T : SpT X.K C "__bool__" f) (F : FnR X.prog X.w X.K X.mg X.base CX n f sp) (hr : Room (n + 2) X.A) (hx : Passes CX X E) : CallR X (.type "bool") (rBoolO C sp E) := by
  intro pins s σ H xs us Q I r h
  obtain ⟨a, dx, fs, rfl, ea, q⟩ := h
  obtain ⟨u, rfl, rx⟩ := vals1 r
  obtain rfl : u = Value.ref a := rx
  obtain ⟨od, J⟩ := inst_of I ea
  obtain ⟨m', hF⟩ := I.fr
  have hin : wpAny (model X.prog X.w) X.A.in1.in1 (truthy (.ref a)) (fun b s' => EP X pins σ Q (.bool b) s') X.xe s := PySem.W.truthy_K hF I.ok.mod.kin J T.at_ T.fn (thn (run_fnR2 (us := [.ref a]) (vs := [.ref a]) F hr hx I (.cons rfl .nil) q) fun w s' ⟨v, H', I', rv, b, ev, q2⟩ => by
    subst ev
    obtain rfl : w = Value.bool b := rv
    exact ⟨.bl b, H', I', rfl, q2⟩)
  refine callType_codes (Q₁ := fun obj s₁ => ∃ b, obj = .bool b ∧ EP X pins σ Q (.bool b) s₁) PySem.F.called_bool (PySem.F.typeCall_bool_1 _) PySem.F.entry_object_init ?_ ?_
  · refine codeAny_call_builtin (b := Builtin.«bool.__new__») (by decide +kernel) PySem.F.entry_bool_new ?_
    rw [PySem.F.newCall_bool_1]
    refine wpAny_pure ?_
    unfold Builtin.«bool.__new__»
    refine wpAny_bind (wpAny_of_eq (a := true) rfl ?_)
    refine wpAny_bind (wpAny_of_eq PySem.F.conv_sub_bool ?_)
    refine wpAny_bind (wpAny_of_eq (a := [Value.ref a]) rfl ?_)
    refine wpAny_bind (thn hin fun b s' h => ?_)
    exact wpAny_of_eq (a := Fin.done (.ret (.bool b))) rfl ⟨b, rfl, h⟩
  · rintro obj s₁ ⟨b, rfl, h⟩
    refine ⟨rfl, PySem.F.args_object_init_2 _ _, ?_⟩
    exact object_init_meets (Slot.lookup PySem.F.called_bool.init) PySem.F.called_bool.made PySem.F.newNe_bool _ _ _ _ _ ⟨rfl, rfl, h⟩
theorem entry_lsub : entryFor table "lifetime.subscript" = some Builtin.«lifetime.subscript» := by rfl
theorem pe_ixO {nm : Str} {p0 pos : Pos} {b : Expr} {ta tb : TE} (ha : L2.PE X (.Name nm p0) ta) (hb : L2.PE X b tb) (hsl : ∀ o i, subscripted b true o i = runValue (Code.builtin "lifetime.subscript" { pos := [o, i] }))
    (T : SpT X.K C "__getitem__" f) (hfd : ∃ o fd, X.K.lookup f = some o ∧ o.data = .func fd) (F : FnR X.prog X.w X.K X.mg X.base CX n f sp) (hr : Room (n + 2) X.A) (hx : Passes CX X E) :
    L2.PE X (.Subscript (.Name nm p0) b pos) (tOp (rIxO C sp E) ta tb) := by
  refine ⟨fun pins s σ H Q I h => ?_⟩
  refine PyProof.Rows.Subscript_ (binT ha hb I (R := fun x y H2 => rIxO C sp E x y H2 Q) h fun v u s2 x y H2 I2 rx ry q => ?_)
  obtain ⟨a, dx, fs, rfl, ea, q⟩ := q
  obtain rfl : v = Value.ref a := rx
  obtain ⟨od, J⟩ := inst_of I2 ea
  obtain ⟨fo, fd, hl, hd⟩ := hfd
  have hg := I2.kIn f fo hl
  unfold PyProof.Rows.subscriptTail
  have hty : PySem.W.typeIn X.K (.ref f) = some (.type "function") := by
    have := T.fn
    unfold PySem.W.isFn at this
    exact eq_of_beq this
  refine wpAny_bind ?_
  unfold getitemInPython
  refine wpAny_bind (PySem.W.Looks.here (r := some (Value.ref f)) (PySem.W.Looks.andThen J.type (PySem.W.looks_findIn I2.kIn T.at_)) ?_)
  refine wpAny_bind (wpAny_load hg (wpAny_of_eq (a := true) (by rw [hd]) ?_))
  refine wpAny_bind ?_
  rw [hsl]
  refine wpAny_runValue ?_
  refine codeAny_builtin entry_lsub ?_
  unfold Builtin.«lifetime.subscript»
  refine wpAny_bind (PySem.W.special_fn I2.kIn J T.at_ hty ?_)
  have E1 : Env0 X.prog X.w X.K X.mg X.base (X.A.under (Code.builtin "lifetime.subscript" { pos := [.ref a, u] })) X.stack s2 H2 := ⟨I2.env0.frames, I2.env0.mod, I2.env0.bs, I2.env0.bsz, I2.env0.funs, I2.env0.frf, I2.env0.hok, I2.env0.bare⟩
  refine wpAny_call (codeAny_mono (F _ X.stack _ _ [.ref a, u] [.ref a, y] _ E ?_ E1 (.cons (show L2.RelV (.ref a) (.ref a) from rfl) (.cons ry .nil)) q) fun r s' h => ?_)
  · have hw : (Code.builtin "lifetime.subscript" { pos := [Value.ref a, u] }).weight ≤ 6 := Nat.le_of_ble_eq_true rfl
    have hc : (Code.builtin "lifetime.subscript" { pos := [Value.ref a, u] }).cUnits ≤ 32 := Nat.le_of_ble_eq_true rfl
    have h1 := hr.dp
    have h2 := hr.un
    exact ⟨hr.hd, by show X.A.depth + _ + 3 * n + 5 < _; omega, by show X.A.units + _ + 16 * n + 200 < _; omega⟩
  cases r with
  | error e => exact hx pins σ _ s2 e s' I2 h
  | ok fl =>
    cases fl with
    | ret w =>
      obtain ⟨v2, H3, os2, bare2, un2, hok2, rv, qv⟩ := h
      refine wpAny_of_eq (a := Fin.done (.ret w)) rfl ?_
      show wpAny (model X.prog X.w) X.A (do letTemporaryGo (Expr.Name nm p0) (Value.ref a) w; pure w) (EP X pins σ Q) X.xe s'
      refine wpAny_bind (wpAny_of_eq (a := ()) rfl (wpAny_of_eq (a := w) rfl ?_))
      exact ⟨v2, H3, I2.call' os2 un2 hok2 bare2 (fun b hb => (nomatch hb)), rv, qv⟩
    | next => exact False.elim h
    | brk => exact False.elim h
    | cont => exact False.elim h
end
end G
namespace G
open PySem PySem.Spec PyProof.Rows L2 StX
section
variable {W : Wd} {Γ : Gam} {ta : TA} {te tb to tl : TE} {B : Bs} {P : PT} {E : XK} {x : Xn → Prop} {C C2 : Addr} {K : PySem.W.Frag}
theorem ev_boolO {β : Type} {rβ : Rep β} {k : Bool → Prop} (hB : W.B = B) (h : EvK W te Γ fun s : β => OwnG β B C (P (fun t => ∃ y : Bool, t = T y ∧ k y) (fun _ => False) [T s])) : EvK W (tCB (rBoolO C (spG B P) E) (tCons te tNil)) Γ k := by
  subst hB
  refine fun σ H Q G c => h σ H _ G fun v H1 s e1 d ⟨cc, fl, iβ, hC, z⟩ => ?_
  subst hC
  obtain ⟨p, dp, fs, hv, _, hH, _⟩ := iβ.at_ d
  exact ⟨p, dp, fs, by rw [hv], hH, W, _, _, _, rfl, e1.ok, .cons (t := T s) (by rw [← hv]; exact d) .nil, z, fun v H3 t e3 dt ⟨a, ea, q⟩ => by
    subst ea
    exact ⟨a, dt, c _ H3 a (e1.trans e3) rfl q⟩, fun n d2 H2 _ _ q => q.elim⟩
theorem ev_ixO {α β γ : Type} {rα : Rep α} {rβ : Rep β} {rγ : Rep γ} {k : α → Prop} (hB : W.B = B) (h : EvK W te Γ fun s : β => EvK W tb Γ fun y : γ => OwnG β B C (P (fun t => ∃ a : α, t = T a ∧ k a) (fun _ => False) [T s, T y])) : EvK W (tOp (rIxO C (spG B P) E) te tb) Γ k := by
  subst hB
  refine ev_two (h.imp fun s hs => hs.imp fun y ⟨c, fl, iβ, hC, hp⟩ x z H Q o dx dz q => ?_)
  subst hC
  obtain ⟨p, dp, fs, hv, _, hH, _⟩ := iβ.at_ dx
  exact ⟨p, dp, fs, hv, hH, W, _, _, _, rfl, o, .cons (t := T s) dx (.cons (t := T y) dz .nil), hp, fun v H2 t e2 dt ⟨b, eb, kb⟩ => by
    subst eb
    exact q v H2 b e2 dt kb, fun n d2 H2 _ _ z => z.elim⟩
theorem Dl.reverse {α : Type} {f : V → α → Prop} {vs : List V} {as : List α} (h : Dl f vs as) : Dl f vs.reverse as.reverse := by
  induction h with
  | nil => exact .nil
  | cons x _ ih =>
    rw [List.reverse_cons, List.reverse_cons]
    exact ih.append (.cons x .nil)
theorem ev_revL {α : Type} {rα : Rep α} {k : List α → Prop} (hK : W.B.K = K) (h : EvK W te Γ fun as : List α => k as.reverse) : EvK W (tRevL K te) Γ k := by
  subst hK
  refine fun σ H Q G c => h σ H _ G fun v H1 as e1 ⟨p, vs, hv, hp, hd⟩ z => ?_
  refine ⟨p, vs, hv, hp.sq, fun q hq => ?_⟩
  have e2 := Ext.new (o := .lst vs.reverse) e1.ok hq
  exact c (.ref q) _ _ (e1.trans e2) ⟨q, _, rfl, Lq.new (fresh_mu e1.ok hq) upd_same, hd.reverse.imp fun _ _ d => Rep.mono e2.keep d⟩ z
theorem dl_take {α : Type} {f : V → α → Prop} : ∀ {vs : List V} {as : List α} (n : Nat), Dl f vs as → Dl f (vs.take n) (as.take n)
  | _, _, 0, _ => .nil
  | _, _, _ + 1, .nil => .nil
  | _, _, n + 1, .cons x y => .cons x (dl_take n y)
theorem cutV_to (xs : List V) (n : Nat) : cutV xs none (some (n : Int)) = xs.take n := by
  unfold cutV
  have e1 : HT.sIx xs.length 0 none = 0 := rfl
  have e2 : HT.sIx xs.length xs.length (some (n : Int)) = min n xs.length := by
    show (if (n : Int) < 0 then ((n : Int) + xs.length).toNat else min (n : Int).toNat xs.length) = _
    rw [if_neg (by omega), Int.toNat_natCast]
  rw [e1, e2, List.drop_zero, Nat.sub_zero]
  by_cases h : n ≤ xs.length
  · rw [Nat.min_eq_left h]
  · rw [Nat.min_eq_right (by omega), List.take_length, List.take_of_length_le (by omega)]
/-- xs[:n] -/
theorem ev_upto {α : Type} {rα : Rep α} {k : List α → Prop} (hK : W.B.K = K) (h : EvK W te Γ fun as : List α => EvK W tb Γ fun n : Int => 0 ≤ n ∧ k (as.take n.toNat)) : EvK W (tSl (rSlL K) te tNoPart (tPart tb)) Γ k := by
  subst hK
  refine fun σ H Q G c => h σ H _ G fun v H1 as e1 d1 h1 => ?_
  refine h1 σ H1 _ (G.ext e1) fun u H2 n e2 d2 ⟨hn, z⟩ => ?_
  obtain ⟨p, vs, hv, hp, hd⟩ := Rep.mono (W := W.toWc) (a := as) e2.keep d1
  refine ⟨n, d2, p, vs, hv, hp.sq, fun q hq => ?_⟩
  obtain ⟨m, rfl⟩ : ∃ m : Nat, n = m := ⟨n.toNat, by omega⟩
  rw [cutV_to]
  rw [Int.toNat_natCast] at z
  have e3 := Ext.new (o := .lst (vs.take m)) e2.ok hq
  exact c (.ref q) _ _ ((e1.trans e2).trans e3) ⟨q, _, rfl, Lq.new (fresh_mu e2.ok hq) upd_same, (dl_take m hd).imp fun _ _ d => Rep.mono e3.keep d⟩ z
theorem Dl.strs {vs : List V} {as : List Str} (h : Dl (fun v (a : Str) => v = .str a) vs as) : vs = as.map V.str := by
  induction h with
  | nil => rfl
  | cons x _ ih => rw [x, ih]; rfl
/-- a.join(ys) -/
theorem ev_join {k : Str → Prop} (hK : W.B.K = K) (h : EvK W te Γ fun a : Str => EvK W tb Γ fun ys : List Str => ((ys.map (·.length)).sum + ys.length * a.length ≤ 1000000) ∧ k (Txt.join a ys)) :
    EvK W (tM1 (fun x xs H Q => ∃ a p, ∃ ys : List Str, x = .str a ∧ xs = [.ref p] ∧ (SqL K H p (ys.map V.str) ∨ SqT K H p (ys.map V.str)) ∧ (ys.map (·.length)).sum + ys.length * a.length ≤ 16777216 ∧ Q (.str (Txt.join a ys)) H) te tb) Γ k := by
  subst hK
  refine fun σ H Q G c => h σ H _ G fun v H1 a e1 d1 h1 => ⟨⟨a, d1⟩, ?_⟩
  refine h1 σ H1 _ (G.ext e1) fun u H2 ys e2 ⟨p, vs, hv, hp, hd⟩ ⟨hl, z⟩ => ?_
  refine ⟨a, p, ys, d1, by rw [hv], .inl ?_, Nat.le_trans hl (by decide), c _ H2 _ (e1.trans e2) rfl z⟩
  rw [← Dl.strs hd]
  exact hp.sq
end
theorem glue_len (a : Str) : ∀ (ys : List Str) (acc : Array Nat), (ys.foldl (fun acc p => acc ++ a.cps ++ p.cps) acc).size = acc.size + (ys.map (·.length)).sum + ys.length * a.length
  | [], acc => by simp
  | y :: r, acc => by
    rw [List.foldl_cons, glue_len a r, List.map_cons, List.sum_cons, List.length_cons, Nat.add_mul, Nat.one_mul]
    simp only [Array.size_append, Str.length]
    omega
theorem join_len (a : Str) (ys : List Str) : (Txt.join a ys).length ≤ (ys.map (·.length)).sum + ys.length * a.length := by
  show (List.foldl (fun acc p => acc ++ a.cps ++ p.cps) (ys.headD Str.empty).cps (List.drop 1 ys)).size ≤ _
  rw [glue_len]
  cases ys with
  | nil => exact Nat.le_of_eq rfl
  | cons y r =>
    show y.length + ((r.map (·.length)).sum) + r.length * a.length ≤ _
    rw [List.map_cons, List.sum_cons, List.length_cons, Nat.add_mul]
    omega
theorem glue_ok (a : Str) (ha : PyData.strOk a = true) : ∀ (ys : List Str) (acc : Str), PyData.strOk acc = true → (∀ y ∈ ys, PyData.strOk y = true) → PyData.strOk ⟨ys.foldl (fun acc p => acc ++ a.cps ++ p.cps) acc.cps⟩ = true
  | [], acc, h, _ => h
  | y :: r, acc, h, hy => glue_ok a ha r (acc ++ a ++ y) (strOk_app (strOk_app h ha) (hy y List.mem_cons_self)) fun z hz => hy z (List.mem_cons_of_mem _ hz)
theorem join_ok {a : Str} {ys : List Str} (ha : PyData.strOk a = true) (hy : ∀ y ∈ ys, PyData.strOk y = true) : PyData.strOk (Txt.join a ys) = true := by
  refine glue_ok a ha (List.drop 1 ys) (ys.headD Str.empty) ?_ fun z hz => hy z (List.mem_of_mem_drop hz)
  cases ys with
  | nil => exact strOk_emp
  | cons y r => exact hy y List.mem_cons_self
theorem sum_le {ys : List Str} {n : Nat} (h : ∀ y ∈ ys, y.length ≤ n) : (ys.map (·.length)).sum ≤ ys.length * n := by
  induction ys with
  | nil => exact Nat.zero_le _
  | cons y r ih =>
    rw [List.map_cons, List.sum_cons, List.length_cons, Nat.add_mul, Nat.one_mul]
    have := h y List.mem_cons_self
    have := ih fun z hz => h z (List.mem_cons_of_mem _ hz)
    omega
/-! ### defs that give a new list -/
abbrev PF (β : Type) := (List β → Prop) → List Ty → Prop
/-- the answer is a list that was not there before the call -/
def spFr {β : Type} [Rep β] (B : Bs) (P : PF β) : Sp := fun vs H Q _ => ∃ (W : Wd) (ts : List Ty) (k : List β → Prop), W.B = B ∧ W.ok H ∧ W.wish H ∧ DT W H vs ts ∧ P k ts ∧
  ∀ p H' ws (bs : List β), H p = none → Ext W H H' → H' p = some (.lst ws) → Dl (den (W.toWc.plus p) H') ws bs → k bs → Q (.ref p) H'
section
variable {W : Wd} {Γ : Gam} {ta : TA} {te tb to tl : TE} {B : Bs} {β : Type} {rβ : Rep β} {P : PF β} {E : L2.St → XK} {C : Addr}
theorem evF_methFr {α : Type} {rα : Rep α} {m : Str} {k : List β → Prop} (hB : W.B = B) (h : EvK W to Γ fun s : α => OwnM α B C m (EvA W ta Γ fun ts => P k (T s :: ts))) : EvF W (tMethZ C m (spFr B P) E to ta) Γ k := by
  subst hB
  refine fun σ H Q G c => h σ H _ G fun v H1 s e1 d ⟨cc, fl, iβ, hC, hm, z⟩ => ?_
  subst hC
  obtain ⟨p, dp, fs, hv, _, hH, hfl⟩ := iβ.at_ d
  refine ⟨p, dp, fs, hv, hH, look_none (by rw [hfl]; exact hm), ?_⟩
  refine z σ H1 _ (G.ext e1) fun vs H2 ts e2 d2 z2 => ?_
  have G2 := (G.ext e1).ext e2
  exact ⟨W, _, k, rfl, e2.ok, G2.wish, .cons (t := T s) (Rep.mono e2.keep d) d2, z2, fun q H3 ws bs hn e3 hq hd kk =>
    c q H3 ws bs (fresh_back e1.ok e1 (fresh_back e2.ok e2 hn)) ((e1.trans e2).trans e3) hq hd kk⟩
theorem evF_callFr {E0' : XK} {k : List β → Prop} (hB : W.B = B) (h : EvA W ta Γ fun ts => P k ts) : EvF W (tCallR (spFr B P) E0' ta) Γ k := by
  subst hB
  refine fun σ H Q G c => h σ H _ G fun vs H1 ts e1 d z => ?_
  exact ⟨W, _, k, rfl, e1.ok, (G.ext e1).wish, d, z, fun q H3 ws bs hn e3 hq hd kk => c q H3 ws bs (fresh_back e1.ok e1 hn) (e1.trans e3) hq hd kk⟩
end
end G
set_option Elab.async false
set_option linter.all false
set_option maxRecDepth 100000
set_option maxHeartbeats 2000000
namespace G
open PySem PySem.Spec PyProof.Rows L2 StX
/-! ### min of a list whose items are compared as they stand in the heap -/
theorem minP_loop {prog : Program} {w : World} {A : Around} {R : Result → Shared → Prop} {I : Addr} {fp wr : List Addr} {n : Nat} {P : Nat → Value → Prop} {St : Nat → Heap → Prop}
    (W : Walks prog w A.in1 I fp wr n P St) (bt : Nat → Nat → Bool) (Ph : Heap → Prop) (S : Addr) (hS : ¬ S ∈ fp)
    (hst : ∀ h h', Ph h → (∀ (b : Addr) (o : Obj), ¬ b ∈ wr → b ≠ S → h.get? b = some o → h'.get? b = some o) → Ph h')
    (C : ∀ (i j : Nat) (vi vj : Value) (s : Shared) (Q E : Value → Shared → Prop), Ph s.heap → P i vi → P j vj → Q (.bool (bt i j)) s → wpAny (model prog w) A.in1 (richCompare .Lt vi vj) Q E s) :
    ∀ (k j : Nat) (s : Shared) (vb : Value) (c : Nat), n - (j + 1) = k → j + 1 ≤ n → St (j + 1) s.heap → Ph s.heap → P (argBest bt j) vb →
      s.heap.get? S = some { cls := Value.type "list", data := Data.seq #[vb, vb] c } →
      (∀ (v : Value) (h' : Heap) (tk : Nat), P (argBest bt (n - 1)) v → (∀ (b : Addr) (o : Obj), ¬ b ∈ wr → b ≠ S → s.heap.get? b = some o → h'.get? b = some o) →
        R (Except.ok (Flow.ret v)) { heap := h', gens := s.gens, drawn := s.drawn, toks := tk, os := s.os }) →
      codeAny (model prog w) A (Code.builtin "min.loop" { pos := [Value.ref I, Value.none, Value.ref S] }) R s := by
  intro k
  induction k with
  | zero =>
    intro j s vb c hk hj hSt hPh hP hg hq
    have hjn : j + 1 = n := by omega
    subst hjn
    refine codeAny_builtin PySem.F.entry_min_loop ?_
    rw [Around.under_plainId PySem.F.plain_min_loop]
    refine wpAny_bind (wpAny_seqItems hg rfl ?_)
    refine wpAny_bind (wpAny_tryCatch (W.done _ _ _ hSt fun h' tk hk' => ?_))
    have hSw : ¬ S ∈ wr := fun h => hS (W.sub _ h)
    have hg' := hk' S _ hSw hg
    refine wpAny_bind (wpAny_updateSeq hg' rfl ?_)
    refine wpAny_bind (wpAny_letGo ?_)
    refine wpAny_of_eq (a := Fin.done (.ret vb)) rfl ?_
    refine hq vb _ _ hP fun b o hb hbS hgb => ?_
    rw [Heap.get?_update_other _ _ (Ne.symm hbS)]
    exact hk' b o hb hgb
  | succ k ih =>
    intro j s vb c hk hj hSt hPh hP hg hq
    have hjn : j + 1 < n := by omega
    refine codeAny_builtin PySem.F.entry_min_loop ?_
    rw [Around.under_plainId PySem.F.plain_min_loop]
    refine wpAny_bind (wpAny_seqItems hg rfl ?_)
    refine wpAny_bind (wpAny_tryCatch (W.item (j + 1) _ _ _ hjn hSt fun v h' tk hv hSt' hk' => ?_))
    have hSw : ¬ S ∈ wr := fun h => hS (W.sub _ h)
    have hg' := hk' S _ hSw hg
    have hPh' : Ph h' := hst _ _ hPh fun b o hb _ q => hk' b o hb q
    refine wpAny_bind (wpAny_pure ?_)
    refine wpAny_bind (wpAny_tryCatch (wpAny_holding (wpAny_bind (C (j + 1) (argBest bt j) v vb _ _ _ hPh' hv hP ?_))))
    refine wpAny_bind (wpAny_holding (wpAny_truthy_bool ?_))
    refine wpAny_bind (wpAny_letGo (wpAny_pure ?_))
    have eb : argBest bt (j + 1) = if bt (j + 1) (argBest bt j) = true then j + 1 else argBest bt j := argBest.eq_2 bt j
    by_cases hb : bt (j + 1) (argBest bt j) = true
    · rw [if_pos hb]
      rw [if_pos hb] at eb
      refine wpAny_bind (wpAny_updateSeq hg' rfl ?_)
      refine wpAny_bind (wpAny_letGo ?_)
      have hup : ∀ (b : Addr) (o : Obj), ¬ b ∈ wr → b ≠ S → s.heap.get? b = some o → (h'.update S (Obj.mapSeq fun _ => #[v, v])).get? b = some o := fun b o hb hbS hgb => by
        rw [Heap.get?_update_other _ _ (Ne.symm hbS)]
        exact hk' b o hb hgb
      refine wpAny_of_eq (a := Fin.again (Code.builtin "min.loop" { pos := [Value.ref I, Value.none, Value.ref S] })) rfl ⟨plainId_quiet PySem.F.plain_min_loop _, ?_⟩
      refine ih (j + 1) _ v _ (by omega) (by omega) (W.frame _ _ _ hSt' fun b hb o q => ?_) (hst _ _ hPh fun b o hb hbS q => hup b o hb hbS q) (by rw [eb]; exact hv) (Heap.get?_update_self _ hg' rfl) fun v2 h2 tk2 hv2 hk2 => hq v2 h2 tk2 hv2 fun b o hb hbS q => hk2 b o hb hbS (hup b o hb hbS q)
      rw [Heap.get?_update_other (a := S) (b := b) _ _ (fun e => hS (by rw [e]; exact hb))]
      exact q
    · rw [if_neg hb]
      rw [if_neg hb] at eb
      refine wpAny_bind (wpAny_letGo ?_)
      refine wpAny_of_eq (a := Fin.again (Code.builtin "min.loop" { pos := [Value.ref I, Value.none, Value.ref S] })) rfl ⟨plainId_quiet PySem.F.plain_min_loop _, ?_⟩
      exact ih (j + 1) _ vb _ (by omega) (by omega) hSt' hPh' (by rw [eb]; exact hP) hg' fun v2 h2 tk2 hv2 hk2 => hq v2 h2 tk2 hv2 fun b o hb hbS q => hk2 b o hb hbS (hk' b o hb q)
theorem minP_first {prog : Program} {w : World} {A : Around} {R : Result → Shared → Prop} {I : Addr} {fp wr : List Addr} {n : Nat} {P : Nat → Value → Prop} {St : Nat → Heap → Prop}
    (W : Walks prog w A.in1 I fp wr n P St) (bt : Nat → Nat → Bool) (Ph : Heap → Prop) (S : Addr) (hS : ¬ S ∈ fp) (hn : 0 < n)
    (hst : ∀ h h', Ph h → (∀ (b : Addr) (o : Obj), ¬ b ∈ wr → b ≠ S → h.get? b = some o → h'.get? b = some o) → Ph h')
    (C : ∀ (i j : Nat) (vi vj : Value) (s : Shared) (Q E : Value → Shared → Prop), Ph s.heap → P i vi → P j vj → Q (.bool (bt i j)) s → wpAny (model prog w) A.in1 (richCompare .Lt vi vj) Q E s)
    {s : Shared} {c : Nat} (hSt : St 0 s.heap) (hPh : Ph s.heap) (hg : s.heap.get? S = some { cls := Value.type "list", data := Data.seq #[] c })
    (hq : ∀ (v : Value) (h' : Heap) (tk : Nat), P (argBest bt (n - 1)) v → (∀ (b : Addr) (o : Obj), ¬ b ∈ wr → b ≠ S → s.heap.get? b = some o → h'.get? b = some o) →
        R (Except.ok (Flow.ret v)) { heap := h', gens := s.gens, drawn := s.drawn, toks := tk, os := s.os }) :
      codeAny (model prog w) A (Code.builtin "min.loop" { pos := [Value.ref I, Value.none, Value.ref S] }) R s := by
  refine codeAny_builtin PySem.F.entry_min_loop ?_
  rw [Around.under_plainId PySem.F.plain_min_loop]
  refine wpAny_bind (wpAny_seqItems hg rfl ?_)
  refine wpAny_bind (wpAny_tryCatch (W.item 0 _ _ _ hn hSt fun v h' tk hv hSt' hk' => ?_))
  have hSw : ¬ S ∈ wr := fun h => hS (W.sub _ h)
  have hg' := hk' S _ hSw hg
  refine wpAny_bind (wpAny_pure ?_)
  refine wpAny_bind (wpAny_updateSeq hg' rfl ?_)
  have hup : ∀ (b : Addr) (o : Obj), ¬ b ∈ wr → b ≠ S → s.heap.get? b = some o → (h'.update S (Obj.mapSeq fun _ => #[v, v])).get? b = some o := fun b o hb hbS hgb => by
    rw [Heap.get?_update_other _ _ (Ne.symm hbS)]
    exact hk' b o hb hgb
  refine wpAny_of_eq (a := Fin.again (Code.builtin "min.loop" { pos := [Value.ref I, Value.none, Value.ref S] })) rfl ⟨plainId_quiet PySem.F.plain_min_loop _, ?_⟩
  refine minP_loop W bt Ph S hS hst C _ 0 _ v _ rfl hn (W.frame _ _ _ hSt' fun b hb o q => ?_) (hst _ _ hPh fun b o hb hbS q => hup b o hb hbS q) hv (Heap.get?_update_self _ hg' rfl) fun v2 h2 tk2 hv2 hk2 => hq v2 h2 tk2 hv2 fun b o hb hbS q => hk2 b o hb hbS (hup b o hb hbS q)
  rw [Heap.get?_update_other (a := S) (b := b) _ _ (fun e => hS (by rw [e]; exact hb))]
  exact q
theorem minP_call {prog : Program} {w : World} {A : Around} {E : Value → Shared → Prop} {s : Shared} {l : Addr} {items : Array Value} {Q : Value → Shared → Prop} (bt : Nat → Nat → Bool) (Ph : Heap → Prop)
    (hd : A.handled = none) (hl : s.heap.IsList l items) (hn : 0 < items.size)
    (hst : ∀ h h' : Heap, Ph h → (∀ (b : Addr) (o : Obj), s.heap.get? b = some o → h.get? b = some o → h'.get? b = some o) → Ph h') (hP : Ph s.heap)
    (C : ∀ (i j : Nat) (vi vj : Value) (s : Shared) (Q E : Value → Shared → Prop), Ph s.heap → items[i]? = some vi → items[j]? = some vj → Q (.bool (bt i j)) s → wpAny (model prog w) A.in1 (richCompare .Lt vi vj) Q E s)
    (q : ∀ (v : Value) (h' : Heap) (tk : Nat), items[argBest bt (items.size - 1)]? = some v → (∀ (b : Addr) (o : Obj), s.heap.get? b = some o → h'.get? b = some o) → Q v { heap := h', gens := s.gens, drawn := s.drawn, toks := tk, os := s.os }) :
    wpAny (model prog w) A (call (Value.builtin "min") [Value.ref l]) Q E s := by
  refine call_function_tree PySem.F.kind_min PySem.F.plain_min PySem.F.entry_min (PySem.F.args_min1 _) ?_
  refine wpAny_bind (wpAny_of_eq (a := [none, none]) rfl ?_)
  refine wpAny_bind (wpAny_pure ?_)
  refine wpAny_bind (wpAny_pyIter_list hl ?_)
  refine wpAny_bind (wpAny_newObj_type (T := "list") (data := .seq #[] 0) ?_ (by show 0 ≤ sizeLine; decide))
  refine wpAny_of_eq (a := Fin.again (Code.builtin "min.loop" { pos := [Value.ref s.heap.objs.size, Value.none, Value.ref (s.heap.push { cls := Value.type "list_iterator", data := Data.fields #[Value.ref l, Value.int 0 0] }).objs.size] })) rfl ⟨plainId_quiet PySem.F.plain_min_loop _, ?_⟩
  obtain ⟨ol, hgl, _⟩ := id hl
  have hlt : l < s.heap.objs.size := Heap.lt_size hgl
  have hne : l ≠ s.heap.objs.size := Nat.ne_of_lt hlt
  have hsz := Heap.size_push s.heap { cls := Value.type "list_iterator", data := Data.fields #[Value.ref l, Value.int 0 0] }
  generalize hI : s.heap.objs.size = I at *
  have W := Walks.list (prog := prog) (w := w) (A := A.in1) hd I l hne items
  have old : ∀ (b : Addr) (o : Obj), s.heap.get? b = some o → ((s.heap.push { cls := Value.type "list_iterator", data := Data.fields #[Value.ref l, Value.int 0 0] }).push { cls := Value.type "list", data := .seq #[] 0 }).get? b = some o := fun b o h => Heap.get?_push_of_some _ (Heap.get?_push_of_some _ h)
  have nI : ∀ (b : Addr) (o : Obj), s.heap.get? b = some o → ¬ b ∈ [I] ∧ b ≠ (s.heap.push { cls := Value.type "list_iterator", data := Data.fields #[Value.ref l, Value.int 0 0] }).objs.size := fun b o h => by
    have := Heap.lt_size h
    rw [hsz]
    have this' : b < I := by rw [← hI]; exact this
    exact ⟨fun hm => absurd (List.mem_singleton.mp hm) (Nat.ne_of_lt this'), Nat.ne_of_lt (Nat.lt_succ_of_lt this')⟩
  have hSn : ¬ (s.heap.push { cls := Value.type "list_iterator", data := Data.fields #[Value.ref l, Value.int 0 0] }).objs.size ∈ [I, l] := by
    rw [hsz]
    intro hm
    rcases List.mem_cons.mp hm with e | hm
    · exact Nat.succ_ne_self I e
    · have e := List.mem_singleton.mp hm
      rw [← e] at hlt
      exact absurd hlt (Nat.not_lt.mpr (Nat.le_succ I))
  refine minP_first W bt (fun h => Ph h) _ hSn hn (fun h h' p k => hst h h' p fun b o ho hh => k b o (nI b o ho).1 (nI b o ho).2 hh) C
    (c := 0) ⟨⟨{ cls := Value.type "list_iterator", data := Data.fields #[Value.ref l, Value.int 0 0] }, ?_, rfl, rfl⟩, (hl.push _).push _⟩ (hst _ _ hP fun b o ho _ => old b o ho) (Heap.get?_push_size _ rfl) fun v h' tk hv hk => q v h' tk hv fun b o ho => hk b o (nI b o ho).1 (nI b o ho).2 (old b o ho)
  rw [← hI]
  exact Heap.get?_push_of_some _ (Heap.get?_push_size _ rfl)
theorem argBest_lex (val : Nat → Int × Int) : ∀ k, argBest (fun i j => !lexLe (val j) (val i)) k ≤ k ∧ ∀ j, j ≤ k → lexLe (val (argBest (fun i j => !lexLe (val j) (val i)) k)) (val j) = true
  | 0 => ⟨Nat.le_refl _, fun j hj => by
    obtain rfl : j = 0 := by omega
    show lexLe (val 0) (val 0) = true
    rw [lexLe_iff]; omega⟩
  | k + 1 => by
    obtain ⟨h1, h2⟩ := argBest_lex val k
    rw [argBest.eq_2]
    by_cases hb : (!lexLe (val (argBest (fun i j => !lexLe (val j) (val i)) k)) (val (k + 1))) = true
    · rw [if_pos hb]
      refine ⟨Nat.le_refl _, fun j hj => ?_⟩
      have hb' : ¬ lexLe (val (argBest (fun i j => !lexLe (val j) (val i)) k)) (val (k + 1)) = true := by simpa using hb
      by_cases e : j = k + 1
      · subst e
        rw [lexLe_iff]; omega
      · have h3 := h2 j (by omega)
        rw [lexLe_iff] at hb' h3 ⊢
        omega
    · rw [if_neg hb]
      refine ⟨by omega, fun j hj => ?_⟩
      by_cases e : j = k + 1
      · subst e
        simpa using hb
      · exact h2 j (by omega)
theorem lexLt2 (a b : Int × Int) : HT.lexLt [a.1, a.2] [b.1, b.2] = !lexLe b a := by
  rw [HT.lexLt.eq_4, HT.lexLt.eq_4, HT.lexLt.eq_1]
  rw [Bool.eq_iff_iff, Bool.not_eq_true', ← Bool.not_eq_true, lexLe_iff]
  by_cases h : a.1 = b.1
  · rw [if_pos h]
    by_cases h2 : a.2 = b.2
    · rw [if_pos h2]
      simp; omega
    · rw [if_neg h2, decide_eq_true_iff]; omega
  · rw [if_neg h, decide_eq_true_iff]; omega
/-- min of a list of pairs -/
def rMinP (K : PySem.W.Frag) : List V → Hp → VK → Prop := fun vs H Q => ∃ (a : Addr) (xs : List V) (ns : List (Int × Int)), vs = [.ref a] ∧ SqL K H a xs ∧ 0 < ns.length ∧ xs.length = ns.length ∧
  (∀ (i : Nat) (x : V) (n : Int × Int), xs[i]? = some x → ns[i]? = some n → ∃ t, x = .ref t ∧ SqT K H t [.int n.1, .int n.2]) ∧ ∀ (i : Nat) (x : V) (m : Int × Int), xs[i]? = some x → ns[i]? = some m → (∀ n ∈ ns, lexLe m n = true) → Q x H
section
variable {X : Cx}
theorem vals_at : ∀ {vs : List V} {us : List Value} {i : Nat} {u : Value}, Vals vs us → us[i]? = some u → ∃ v, vs[i]? = some v ∧ L2.RelV v u
  | _, _, _, _, .nil, h => by simp at h
  | _, _, 0, _, .cons x y, h => ⟨_, rfl, by simp at h; subst h; exact x⟩
  | _, _, i + 1, _, .cons x y, h => by
    obtain ⟨a, h1, h2⟩ := vals_at (i := i) y (by simpa using h)
    exact ⟨a, by simpa using h1, h2⟩
theorem cr_minP (hc : X.calm = true) (hu : X.A.units + 64 < cLine) : CallR X (.builtin "min") (rMinP X.K) := by
  intro pins s σ H xs us Q I r h
  obtain ⟨a, vs, ns, rfl, hS, hn, hl, hp, q⟩ := h
  obtain ⟨u, rfl, rx⟩ := vals1 r
  obtain rfl : u = Value.ref a := rx
  obtain ⟨its, hv, hL, hsz⟩ := I.list hS
  have hlen : its.length = vs.length := hv.length.symm
  have hsize : its.toArray.size = ns.length := by rw [List.size_toArray]; omega
  have hval : ∀ (i : Nat) (n : Int × Int), ns[i]? = some n → ns.getD i (0, 0) = n := fun i n h => by rw [List.getD_eq_getElem?_getD, h]; rfl
  refine minP_call (fun i j => !lexLe (ns.getD j (0, 0)) (ns.getD i (0, 0))) (fun h => ∀ (b : Addr) (o : Obj), s.heap.get? b = some o → h.get? b = some o) (I.ok.hd hc) hL.isList (by omega) (fun h h' p k b o e => k b o e (p b o e)) (fun _ _ e => e) (fun i j vi vj s' Q' E' hP hi hj hq => ?_) (fun v h' tk hv' hk => ?_)
  · rw [List.getElem?_toArray] at hi hj
    obtain ⟨x, hx, rx1⟩ := vals_at hv hi
    obtain ⟨y, hy, ry1⟩ := vals_at hv hj
    have il : i < ns.length := by have := (List.getElem?_eq_some_iff.mp hx).1; omega
    have jl : j < ns.length := by have := (List.getElem?_eq_some_iff.mp hy).1; omega
    obtain ⟨t, rfl, ht⟩ := hp i x _ hx (List.getElem?_eq_getElem il)
    obtain ⟨t2, rfl, ht2⟩ := hp j y _ hy (List.getElem?_eq_getElem jl)
    obtain rfl : vi = Value.ref t := rx1
    obtain rfl : vj = Value.ref t2 := ry1
    obtain ⟨is1, w1, ⟨o1, g1, c1⟩, _⟩ := I.tuple ht
    obtain ⟨is2, w2, ⟨o2, g2, c2⟩, _⟩ := I.tuple ht2
    refine HT.lt_tupInts (ns := [(ns[i]).1, (ns[i]).2]) (ms := [(ns[j]).1, (ns[j]).2]) ⟨o1, hP _ _ g1, c1⟩ ⟨o2, hP _ _ g2, c2⟩ (intsAre_of w1) (intsAre_of w2) (by show X.A.units + 1 < cLine; omega) ?_
    rw [lexLt2]
    rw [hval i _ (List.getElem?_eq_getElem il), hval j _ (List.getElem?_eq_getElem jl)] at hq
    exact hq
  · rw [List.getElem?_toArray] at hv'
    obtain ⟨x, hx, rx1⟩ := vals_at hv hv'
    obtain ⟨b1, b2⟩ := argBest_lex (fun i => ns.getD i (0, 0)) (its.toArray.size - 1)
    have bl : argBest (fun i j => !lexLe (ns.getD j (0, 0)) (ns.getD i (0, 0))) (its.toArray.size - 1) < ns.length := by omega
    refine ⟨x, H, I.kept (fun b u e => hk b u e), rx1, q _ x _ hx (List.getElem?_eq_getElem bl) fun n hm => ?_⟩
    obtain ⟨j, hj⟩ := List.getElem?_of_mem hm
    have jl := (List.getElem?_eq_some_iff.mp hj).1
    have h3 := b2 j (by omega)
    rw [hval j n hj, hval _ _ (List.getElem?_eq_getElem bl)] at h3
    exact h3
end
section
variable {W : Wd} {Γ : Gam} {te : TE} {K : PySem.W.Frag}
/-- the least of some pairs -/
def minF (ns : List (Int × Int)) : Int × Int := (sortP ns).headD (0, 0)
theorem minF_of {ns : List (Int × Int)} {m : Int × Int} (hm : m ∈ ns) (h : ∀ n ∈ ns, lexLe m n = true) : minF ns = m := by
  have hp := sortP_perm ns
  cases e : sortP ns with
  | nil => rw [e] at hp; exact absurd (hp.mem_iff.mpr hm) (by simp)
  | cons x r =>
    unfold minF
    rw [e]
    have hx : x ∈ ns := hp.mem_iff.mp (by rw [e]; exact List.mem_cons_self)
    have h1 := h x hx
    have hs := sortP_sorted ns
    rw [e] at hs
    have hm' : m ∈ x :: r := by rw [← e]; exact hp.mem_iff.mpr hm
    rcases List.mem_cons.mp hm' with rfl | hm'
    · rfl
    · exact lexLe_anti _ _ ((List.pairwise_cons.mp hs).1 m hm') h1
theorem ev_minP {k : Int × Int → Prop} (hK : W.B.K = K) (h : EvK W te Γ fun as : List (Int × Int) => 0 < as.length ∧ ∀ m, m ∈ as → (∀ n ∈ as, lexLe m n = true) → k m) : EvK W (tCB (rMinP K) (tCons te tNil)) Γ k := by
  subst hK
  refine fun σ H Q G c => h σ H _ G fun v H1 as e1 ⟨p, vs, hv, hp, hd⟩ ⟨hl, z⟩ => ?_
  refine ⟨p, vs, as, by rw [hv], hp.sq, hl, hd.length, fun i x n hx hn => ?_, fun i x m hx hm hle => ?_⟩
  · obtain ⟨a, ha, da⟩ := hd.at hx
    rw [hn] at ha
    cases ha
    obtain ⟨t, y, u, hv2, s, h1, h2⟩ := da
    have h1' : y = V.int n.1 := h1
    have h2' : u = V.int n.2 := h2
    subst h1' h2'
    exact ⟨t, hv2, s.sq⟩
  · obtain ⟨a, ha, da⟩ := hd.at hx
    rw [hm] at ha
    cases ha
    exact c x H1 m e1 da (z m (List.mem_of_getElem? hm) hle)
/-- pairs compared -/
theorem ev_ltP {ta tb : TE} {k : Bool → Prop} (hK : W.B.K = K) (h : EvK W ta Γ fun a : Int × Int => EvK W tb Γ fun b : Int × Int => k (!lexLe b a)) : EvK W (tOp (rLtT K) ta tb) Γ k := by
  subst hK
  refine ev_two (h.imp fun a ha => ha.imp fun b hb x y H Q o dx dy c => ?_)
  obtain ⟨t, x1, x2, rfl, s, h1, h2⟩ := dx
  obtain ⟨t2, y1, y2, rfl, s2, g1, g2⟩ := dy
  have h1' : x1 = V.int a.1 := h1
  have h2' : x2 = V.int a.2 := h2
  have g1' : y1 = V.int b.1 := g1
  have g2' : y2 = V.int b.2 := g2
  subst h1' h2' g1' g2'
  exact ⟨t, t2, [a.1, a.2], [b.1, b.2], rfl, rfl, s.sq, s2.sq, c _ H _ (Ext.refl o) (by rw [lexLt2]; rfl) hb⟩
end
end G
set_option Elab.async false
set_option linter.all false
set_option maxRecDepth 100000
set_option maxHeartbeats 2000000
namespace G
open PySem PySem.Spec PyProof.Rows L2 StX
/-! ### properties that may raise -/
/-- errors that are no AttributeError -/
def NAt (K : PySem.W.Frag) (cls : Value) : Prop := ∃ C, cls = .ref C ∧ PySem.W.subIn K (.ref C) (.type "AttributeError") = some false
def tPropX (K : PySem.W.Frag) (C : Addr) (sp : Sp) (E : L2.St → XK) (ta : TE) : TE := fun σ H Q => ta σ H fun x H1 => ∃ a dx fs, x = .ref a ∧ H1 a = some (.ins C dx fs) ∧ sp [.ref a] H1 Q (fun cls d H' => NAt K cls ∧ E σ cls d H')
theorem note_none {X : Cx} {A : Around} {E : Value → Shared → Prop} {s : Shared} {x a C : Addr} {o : Obj} {nm : Value} {Q : Unit → Shared → Prop} (hk : X.K.In s.heap) (hg : s.heap.get? a = some o) (hc : o.cls = .ref C) (hn : PySem.W.subIn X.K (.ref C) (.type "AttributeError") = some false) (q : Q () s) :
    wpAny (model X.prog X.w) A (noteIf true (.ref x) nm (.ref a)) Q E s := by
  unfold noteIf noteAttr
  rw [if_pos rfl]
  refine wpAny_bind ?_
  unfold lacksNameAndObj
  refine wpAny_bind ?_
  show wpAny _ _ (do let t ← typeOf (.ref a); isSubtype t (.type "AttributeError")) _ _ _
  refine wpAny_bind (wpAny_typeOf_ref hg ?_)
  rw [hc]
  refine PySem.W.Looks.here (PySem.W.looks_subIn hk hn) ?_
  exact wpAny_of_eq (a := false) rfl (wpAny_of_eq (a := ()) rfl q)
section
variable {X : Cx} {k : Nat} {g C p : Addr} {m : Str} {sp : Sp} {E : L2.St → XK} {e : Expr} {te : TE} {pos : Pos}
theorem getpropX_ok {pins : List (Addr × Obj)} {σ : L2.St} {H : Hp} {s : Shared} {Q : VK} {b : Bool} {a dx : Addr} {fs : List (Str × V)} (I : L2.Inv X pins σ H s) (ea : H a = some (.ins C dx fs)) (c : L2.Cls X.K C) (hp : PropOf X.K C m p g)
    (F : FnR X.prog X.w X.K X.mg X.base (L2.CX X.prog X.w) k g sp) (hr : Room (k + 1) X.A) (hx : PassesAt (L2.CX X.prog X.w) X σ (E σ)) (h : sp [.ref a] H Q (fun cls d H' => NAt X.K cls ∧ E σ cls d H')) :
    wpAny (model X.prog X.w) X.A (getAttr (.ref a) m b) (EP X pins σ Q) X.xe s := by
  obtain ⟨mA, O, _, _, _, _⟩ := ins_get I.hok ea
  obtain ⟨od, J, _⟩ := O.look
  obtain ⟨rest, hrec⟩ := hp.rec_
  have I1 := I.tok (s.toks + 1)
  have hc : (PySem.W.clsIn X.K C).isSome = true := by
    obtain ⟨cd, hc, _⟩ := PySem.W.any_some c.hd
    rw [hc]
    rfl
  refine PySem.W.get_bind I.kIn J (PySem.W.plainGet_of (c.get m)).1 (PySem.W.findObj_data hc hp.at_ hp.get hp.tak) (PySem.W.plainGet_of (c.get m)).2 (wpAny_call (PySem.W.prop_get (s := { s with toks := s.toks + 1 }) I.kIn hrec ?_))
  refine codeAny_mono (F X.A.in1 X.stack { s with toks := s.toks + 1 } H [.ref a] [.ref a] Q _ hr.in1 I1.env0.in1 (.cons rfl .nil) h) fun r s' hq => ?_
  cases r with
  | error er =>
    have hq' : L2.CX X.prog X.w X.stack H { s with toks := s.toks + 1 } (E σ) er s' := by
      obtain ⟨a, B, H', cls, d, ea, fl, hok, ub, na, os, ag, he⟩ := hq
      exact ⟨a, B, H', cls, d, ea, fl, hok, ub, na, os, ag, he.2⟩
    obtain ⟨_, _, _, _, _, _, _, _, rfl, Ja, nb, up, sk, _, os2, ag2, _⟩ := XE.of_call (W := fun _ _ _ _ => True) I1 (fun _ _ _ _ => trivial) hq
    have hki : X.K.In s'.heap := by
      have st : _ := sk
      rcases sk with sk | sk | sk
      · exact (Ja.landed nb sk.1 up os2 ag2).kIn
      · exact (Ja.landed nb sk.1 up os2 ag2).kIn
      · exact (Ja.landed nb sk.1 up os2 ag2).kIn
    obtain ⟨a2, B2, H2, cls, d, ea2, fl, hok, ub, na, os, ag, ⟨C2, rfl, hn⟩, _⟩ := hq
    cases ea2
    obtain ⟨_, _, _, oe, vs, T, oT, ts, hg, hz, _⟩ := fl
    exact note_none hki hg hz.1 hn (hx pins H _ _ s' I1 hq')
  | ok fl =>
    cases fl with
    | ret u =>
      obtain ⟨v, H', I3, rv, q3⟩ := I1.after hq
      show wpAny _ _ (handedOut u) _ _ _
      rw [PySem.W.handedOut_of (handed_of rv)]
      exact wpAny_pure ⟨v, H', I3, rv, q3⟩
    | next => exact False.elim hq
    | brk => exact False.elim hq
    | cont => exact False.elim hq
theorem pe_propX (he : PE X e te) (c : L2.Cls X.K C) (hp : ∃ p, PropOf X.K C m p g) (F : FnR X.prog X.w X.K X.mg X.base (L2.CX X.prog X.w) k g sp) (hr : Room (k + 1) X.A) (hx : ∀ σ, PassesAt (L2.CX X.prog X.w) X σ (E σ))
    (hab : attributeBase e m X.env (eval e X.env) = eval e X.env := by rfl) : PE X (.Attribute e m pos) (tPropX X.K C sp E te) := by
  obtain ⟨p, hp⟩ := hp
  refine ⟨fun pins s σ H Q I h => ?_⟩
  refine attr_of hab (thn (he.run pins s σ H _ I h) fun u s1 ⟨x, H1, I1, rx, a, dx, fs, ex, ea, q⟩ => ?_)
  subst ex
  obtain rfl : u = Value.ref a := rx
  exact getpropX_ok I1 ea c hp F hr (hx σ) q
theorem pe_propXK (K : PySem.W.Frag) (E : L2.St → XK) (he : PE X e te) (c : L2.Cls X.K C) (hp : ∃ p, PropOf X.K C m p g) (F : FnR X.prog X.w X.K X.mg X.base (L2.CX X.prog X.w) k g sp) (hr : Room (k + 1) X.A) (hx : ∀ σ, PassesAt (L2.CX X.prog X.w) X σ (E σ)) (hK : X.K = K := by rfl)
    (hab : attributeBase e m X.env (eval e X.env) = eval e X.env := by rfl) : PE X (.Attribute e m pos) (tPropX K C sp E te) := by subst hK; exact pe_propX he c hp F hr hx hab
end
section
variable {W : Wd} {Γ : Gam} {te : TE} {B : Bs} {P : PT} {C : Addr} {E : L2.St → XK} {x : Xn → Prop} {K : PySem.W.Frag}
theorem ev_propX {α β : Type} {rα : Rep α} {rβ : Rep β} {k : α → Prop} (hB : W.B = B) (hx : HX W Γ E x)
    (h : EvK W te Γ fun s : β => OwnG β B C (P (fun t => ∃ a : α, t = T a ∧ k a) (fun n => NAt K (.ref (B.cl n.c)) ∧ x n) [T s])) : EvK W (tPropX K C (spG B P) E te) Γ k := by
  subst hB
  refine fun σ H Q G c => h σ H _ G fun v H1 s e1 d ⟨cc, fl, iβ, hC, z⟩ => ?_
  subst hC
  obtain ⟨p, dp, fs, hv, _, hH, _⟩ := iβ.at_ d
  refine ⟨p, dp, fs, hv, hH, W, _, _, _, rfl, e1.ok, .cons (t := T s) (by rw [← hv]; exact d) .nil, z, fun v H3 t e3 dt ⟨a, ea, q⟩ => by
    subst ea
    exact c v H3 a (e1.trans e3) dt q, fun n d2 H2 e2 xd ⟨hn, xn⟩ => ⟨hn, hx σ H1 (G.ext e1) n d2 H2 e2 xd xn⟩⟩
end
end G
namespace G
open PySem PySem.Spec PyProof.Rows L2 StX
section
variable {X : Cx}
theorem cr_minPK (K : PySem.W.Frag) (hc : X.calm = true) (hu : X.A.units + 64 < cLine) (hK : X.K = K := by rfl) : CallR X (.builtin "min") (rMinP K) := by subst hK; exact cr_minP hc hu
theorem op_ltTK (K : PySem.W.Frag) (hu : X.A.units + 64 < cLine) (hK : X.K = K := by rfl) : OpR X (compareOp .Lt) (rLtT K) := by subst hK; exact op_ltT (by omega)
theorem pe_revLK (K : PySem.W.Frag) {e : Expr} {te : TE} {k : Nat} {p1 p2 p3 pos : Pos} (h : L2.PE X e te) (hK : X.K = K := by rfl) : L2.PE X (e.Subscript (Expr.Slice none none (some (Expr.UnaryOp UnaryOp.USub (Expr.Constant (Const.int 1) k p1) p2)) p3) pos) (tRevL K te) := by subst hK; exact pe_revL h
end
/-! ### mathematics of the nearest level -/
theorem nf_fix {ps : List (Int × Int)} (h : NF ps) : unionF ps = ps := nf_uniq (unionF_nf h.1) h (unionF_mem h.1)
def clampF (y : Int) (p : Stc) : Int := max p.lo (min p.hi y)
def keyF (y b : Int) : Int × Int := (((b - y).natAbs : Int), b)
def nearF (ps : List Stc) (y : Int) : Int := (minF ((ps.map (clampF y)).map (keyF y))).2
theorem nearF_of {ps : List Stc} {y b : Int} (h1 : ∃ p ∈ ps, b = clampF y p) (h2 : ∀ p ∈ ps, lexLe (keyF y b) (keyF y (clampF y p)) = true) : nearF ps y = b := by
  obtain ⟨p, hp, rfl⟩ := h1
  unfold nearF
  rw [minF_of (m := keyF y (clampF y p)) (List.mem_map.mpr ⟨_, List.mem_map.mpr ⟨p, hp, rfl⟩, rfl⟩) fun n hn => ?_]
  · rfl
  · obtain ⟨b, hb, rfl⟩ := List.mem_map.mp hn
    obtain ⟨q, hq, rfl⟩ := List.mem_map.mp hb
    exact h2 q hq
theorem nf_moved {ps : List (Int × Int)} (h : NF ps) (y : Int) : NF (ps.map fun p => (p.1 + y, p.2 + y)) := by
  refine ⟨fun q hq => ?_, List.pairwise_map.mpr (h.2.imp fun {a b} hab => ?_)⟩
  · obtain ⟨p, hp, rfl⟩ := List.mem_map.mp hq
    have := h.1 p hp
    show p.1 + y ≤ p.2 + y
    omega
  · show a.2 + y + 1 < b.1 + y
    omega
end G
set_option Elab.async false
set_option linter.all false
set_option maxRecDepth 100000
set_option maxHeartbeats 2000000
namespace G
open PySem PySem.Spec PyProof.Rows L2 StX
/-! ### == of lists whose items are compared by their own == -/
def LstB (prog : Program) (w : World) (A : Around) (E : Value → Shared → Prop) (l b : Addr) (N : Nat) (e : Nat → Bool) (I : Shared → Prop) : Prop :=
  ∀ s, I s → ∃ (items items2 : Array Value) (n n2 : Nat), s.heap.get? l = some { cls := Value.type "list", data := Data.seq items n } ∧ s.heap.get? b = some { cls := Value.type "list", data := Data.seq items2 n2 } ∧ items.size = N ∧ items2.size = N ∧
    ∀ (i : Nat) (h1 : i < items.size) (h2 : i < items2.size), wpAny (model prog w) A.in1 (eqBool items[i] items2[i]) (fun r s' => r = e i ∧ I s') E s
section
variable {prog : Program} {w : World} {A : Around} {R : Result → Shared → Prop} {l b : Addr} {N : Nat} {e : Nat → Bool} {I : Shared → Prop}
theorem eqL_loop (hI : LstB prog w A (fun e s' => R (Except.error e) s') l b N e I) (hT : (∀ j, j < N → e j = true) → ∀ s, I s → R (Except.ok (Flow.ret (Value.bool true))) s) (hF : (∃ j, j < N ∧ e j = false) → ∀ s, I s → R (Except.ok (Flow.ret (Value.bool false))) s) :
    ∀ (k i : Nat), N - i = k → i ≤ N → (∀ j, j < i → e j = true) → ∀ s, I s → wpAny (model prog w) A.in1 (Builtin.«list.__eq__.loop» { pos := [Value.ref l, Value.ref b, rawInt i, rawInt 2] }) (GQ.FinOf prog w A R) (fun e s' => R (Except.error e) s') s := by
  intro k
  induction k with
  | zero =>
    intro i hk hi hj s hs
    have hiN : i = N := by omega
    obtain ⟨items, items2, n, n2, g1, g2, z1, z2, _⟩ := hI s hs
    unfold Builtin.«list.__eq__.loop»
    refine wpAny_bind ?_
    refine wpAny_bind (wpAny_seqItems g1 rfl (wpAny_pure ?_))
    refine wpAny_bind (wpAny_bind (wpAny_seqItems g2 rfl (wpAny_pure ?_)))
    have m1 : items[(i : Int).toNat]? = none := by rw [Int.toNat_natCast]; exact Array.getElem?_eq_none (by omega)
    rw [m1]
    refine wpAny_bind (wpAny_bind (wpAny_seqItems g1 rfl (wpAny_pure ?_)))
    refine wpAny_bind (wpAny_bind (wpAny_seqItems g2 rfl (wpAny_pure ?_)))
    refine wpAny_of_eq (a := Fin.done (.ret (.bool (items.size == items2.size)))) rfl ?_
    rw [show (items.size == items2.size) = true by rw [z1, z2]; exact beq_self_eq_true _]
    exact hT (fun j h => hj j (by omega)) s hs
  | succ k ih =>
    intro i hk hi hj s hs
    obtain ⟨items, items2, n, n2, g1, g2, z1, z2, hE⟩ := hI s hs
    have h1 : i < items.size := by omega
    have h2 : i < items2.size := by omega
    unfold Builtin.«list.__eq__.loop»
    refine wpAny_bind ?_
    refine wpAny_bind (wpAny_seqItems g1 rfl (wpAny_pure ?_))
    refine wpAny_bind (wpAny_bind (wpAny_seqItems g2 rfl (wpAny_pure ?_)))
    have m1 : items[(i : Int).toNat]? = some items[i] := by rw [Int.toNat_natCast]; exact Array.getElem?_eq_getElem h1
    have m2 : items2[(i : Int).toNat]? = some items2[i] := by rw [Int.toNat_natCast]; exact Array.getElem?_eq_getElem h2
    rw [m1, m2]
    refine wpAny_bind (wpAny_mono (hE i h1 h2) (fun r s' hr => ?_) fun _ _ q => q)
    obtain ⟨hr, hs'⟩ := hr
    subst hr
    cases he : e i with
    | true =>
      rw [if_pos rfl]
      refine wpAny_of_eq (a := Fin.again (Code.builtin "list.__eq__.loop" { pos := [Value.ref l, Value.ref b, rawInt ((i : Int) + 1), rawInt 2] })) rfl ⟨plainId_quiet MeetsSeq3.plain_eq_loop _, ?_⟩
      refine codeAny_builtin MeetsSeq3.entry_eq_loop ?_
      rw [Around.under_plainId MeetsSeq3.plain_eq_loop]
      have := ih (i + 1) (by omega) (by omega) (fun j h => by
        by_cases e2 : j = i
        · rw [e2]; exact he
        · exact hj j (by omega)) s' hs'
      exact this
    | false =>
      rw [if_neg (by decide)]
      obtain ⟨jt, jt2, m, m2', f1, f2, y1, y2, _⟩ := hI s' hs'
      refine wpAny_bind (wpAny_bind (wpAny_seqItems f1 rfl (wpAny_pure ?_)))
      refine wpAny_bind (wpAny_bind (wpAny_seqItems f2 rfl (wpAny_pure ?_)))
      have n1 : jt[(i : Int).toNat]? = some (jt[i]'(by omega)) := by rw [Int.toNat_natCast]; exact Array.getElem?_eq_getElem (by omega)
      have n2 : jt2[(i : Int).toNat]? = some (jt2[i]'(by omega)) := by rw [Int.toNat_natCast]; exact Array.getElem?_eq_getElem (by omega)
      rw [n1, n2]
      exact wpAny_of_eq (a := Fin.done (.ret (.bool false))) rfl (hF ⟨i, by omega, he⟩ s' hs')
theorem eqL_list (hI : LstB prog w A (fun e s' => R (Except.error e) s') l b N e I) (hT : (∀ j, j < N → e j = true) → ∀ s, I s → R (Except.ok (Flow.ret (Value.bool true))) s) (hF : (∃ j, j < N ∧ e j = false) → ∀ s, I s → R (Except.ok (Flow.ret (Value.bool false))) s) {s : Shared} (hs : I s) :
    wpAny (model prog w) A.in1 (Builtin.«list.__eq__» { pos := [Value.ref l, Value.ref b] }) (GQ.FinOf prog w A R) (fun e s' => R (Except.error e) s') s := by
  obtain ⟨items, items2, n, n2, g1, g2, z1, z2, hE⟩ := hI s hs
  refine wpAny_bind (wpAny_of_eq (a := (Value.ref l, [Value.ref b])) rfl ?_)
  refine wpAny_bind (wpAny_bind (wpAny_typeOf_ref g2 (wpAny_of_eq (a := true) AutoSeq1.sub_list_list ?_)))
  refine wpAny_bind (wpAny_bind (wpAny_seqItems g1 rfl (wpAny_pure ?_)))
  refine wpAny_bind (wpAny_bind (wpAny_seqItems g2 rfl (wpAny_pure ?_)))
  rw [if_neg (by rw [z1, z2]; simp)]
  refine wpAny_of_eq (a := Fin.again (Code.builtin "list.__eq__.loop" { pos := [Value.ref l, Value.ref b, rawInt ((0 : Nat) : Int), rawInt 2] })) rfl ⟨plainId_quiet MeetsSeq3.plain_eq_loop _, ?_⟩
  refine codeAny_builtin MeetsSeq3.entry_eq_loop ?_
  rw [Around.under_plainId MeetsSeq3.plain_eq_loop]
  exact eqL_loop hI hT hF N 0 rfl (Nat.zero_le _) (fun j h => absurd h (Nat.not_lt_zero j)) s hs
theorem eqL_len {s : Shared} {items items2 : Array Value} {n n2 : Nat} (g1 : s.heap.get? l = some { cls := Value.type "list", data := Data.seq items n }) (g2 : s.heap.get? b = some { cls := Value.type "list", data := Data.seq items2 n2 }) (hne : items.size ≠ items2.size) (hF : R (Except.ok (Flow.ret (Value.bool false))) s) :
    wpAny (model prog w) A.in1 (Builtin.«list.__eq__» { pos := [Value.ref l, Value.ref b] }) (GQ.FinOf prog w A R) (fun e s' => R (Except.error e) s') s := by
  refine wpAny_bind (wpAny_of_eq (a := (Value.ref l, [Value.ref b])) rfl ?_)
  refine wpAny_bind (wpAny_bind (wpAny_typeOf_ref g2 (wpAny_of_eq (a := true) AutoSeq1.sub_list_list ?_)))
  refine wpAny_bind (wpAny_bind (wpAny_seqItems g1 rfl (wpAny_pure ?_)))
  refine wpAny_bind (wpAny_bind (wpAny_seqItems g2 rfl (wpAny_pure ?_)))
  rw [if_pos (by simp [hne])]
  refine wpAny_bind (wpAny_rule ?_)
  exact wpAny_of_eq (a := Fin.done (.ret (.bool false))) rfl hF
end
theorem rcL {prog : Program} {w : World} {A : Around} {E : Value → Shared → Prop} {s : Shared} {l b : Addr} {N : Nat} {e : Nat → Bool} {I : Shared → Prop} {Q : Value → Shared → Prop} (hu : A.units < cLine) (hI : LstB prog w A E l b N e I)
    (hT : (∀ j, j < N → e j = true) → ∀ s, I s → Q (Value.bool true) s) (hF : (∃ j, j < N ∧ e j = false) → ∀ s, I s → Q (Value.bool false) s) (hs : I s) : wpAny (model prog w) A (richCompare .Eq (Value.ref l) (Value.ref b)) Q E s := by
  obtain ⟨items, items2, n, n2, g1, g2, z1, z2, hE⟩ := id (hI s hs)
  refine wpAny_richCompare_same_room (T := "list") (op := .Eq) ⟨_, g1, rfl⟩ ⟨_, g2, rfl⟩ PySem.F.slot_list_eq ?_ hu
  refine GQ.call_here PySem.F.slot_list_eq ⟨_, g1, rfl⟩ PySem.F.entry_list_eq (PySem.F.args_list_eq_2 _ _) ?_
  exact eqL_list (R := wants (fun v s' => v ≠ Value.notImplemented ∧ Q v s') E) hI (fun h s h2 => ⟨by simp, hT h s h2⟩) (fun h s h2 => ⟨by simp, hF h s h2⟩) hs
theorem rcL_len {prog : Program} {w : World} {A : Around} {E : Value → Shared → Prop} {s : Shared} {l b : Addr} {items items2 : Array Value} {n n2 : Nat} {Q : Value → Shared → Prop} (hu : A.units < cLine) (g1 : s.heap.get? l = some { cls := Value.type "list", data := Data.seq items n }) (g2 : s.heap.get? b = some { cls := Value.type "list", data := Data.seq items2 n2 }) (hne : items.size ≠ items2.size)
    (hF : Q (Value.bool false) s) : wpAny (model prog w) A (richCompare .Eq (Value.ref l) (Value.ref b)) Q E s := by
  refine wpAny_richCompare_same_room (T := "list") (op := .Eq) ⟨_, g1, rfl⟩ ⟨_, g2, rfl⟩ PySem.F.slot_list_eq ?_ hu
  refine GQ.call_here PySem.F.slot_list_eq ⟨_, g1, rfl⟩ PySem.F.entry_list_eq (PySem.F.args_list_eq_2 _ _) ?_
  exact eqL_len (R := wants (fun v s' => v ≠ Value.notImplemented ∧ Q v s') E) g1 g2 hne ⟨by simp, hF⟩
/-- == of two lists of own objects of the class at C -/
def rEqLB (C : Addr) (sp : Sp) (E : XK) : R2 := fun x y H Q => ∃ (p q : Addr) (vs ws : List V) (e : Nat → Bool), x = .ref p ∧ y = .ref q ∧ H p = some (.lst vs) ∧ H q = some (.lst ws) ∧
  (vs.length ≠ ws.length → Q (.bl false) H) ∧ (vs.length = ws.length → ∃ J : Hp → Prop, J H ∧ (∀ H', J H' → H' p = some (.lst vs) ∧ H' q = some (.lst ws)) ∧
    (∀ (i : Nat) (a b : V), vs[i]? = some a → ws[i]? = some b → ∃ aa bb, a = .ref aa ∧ b = .ref bb ∧ (aa = bb → e i = true) ∧ ∀ H', J H' → (∃ dx fs, H' aa = some (.ins C dx fs)) ∧ (∃ dy gs, H' bb = some (.ins C dy gs)) ∧ sp [a, b] H' (fun v H2 => v = .bl (e i) ∧ J H2) E) ∧
    ((∀ j, j < vs.length → e j = true) → ∀ H', J H' → Q (.bl true) H') ∧ ((∃ j, j < vs.length ∧ e j = false) → ∀ H', J H' → Q (.bl false) H'))
section
variable {X : Cx} {CX : CXT} {n : Nat} {f C : Addr} {sp : Sp} {E : XK}
theorem op_eqLB (T : EqT X.K C f) (F : FnR X.prog X.w X.K X.mg X.base CX n f sp) (hr : Room (n + 1) X.A) (hx : Passes CX X E) : OpR X (compareOp .Eq) (rEqLB C sp E) := by
  intro pins s σ H x y v u Q I rx ry h
  obtain ⟨p, q, vs, ws, e, rfl, rfl, hp, hq, hne, heq⟩ := h
  obtain rfl : v = Value.ref p := rx
  obtain rfl : u = Value.ref q := ry
  have hu := hr.units
  show wpAny _ _ (richCompare .Eq _ _) _ _ _
  obtain ⟨_, its, m1, hv, g1⟩ := I.hok p _ hp
  obtain ⟨_, its2, m2, hv2, g2⟩ := I.hok q _ hq
  by_cases hl : vs.length = ws.length
  · obtain ⟨J, hJ, hJl, hJe, hT, hF⟩ := heq hl
    refine rcL (N := vs.length) (e := e) (I := fun s' => ∃ H', L2.Inv X pins σ H' s' ∧ J H') (by omega) ?_ (fun ha s' ⟨H', I', j⟩ => ⟨.bl true, H', I', rfl, hT ha H' j⟩) (fun ha s' ⟨H', I', j⟩ => ⟨.bl false, H', I', rfl, hF ha H' j⟩) ⟨H, I, hJ⟩
    rintro s' ⟨H', I', j⟩
    obtain ⟨hp', hq'⟩ := hJl H' j
    obtain ⟨_, ks, k1, kv, f1⟩ := I'.hok p _ hp'
    obtain ⟨_, ks2, k2, kv2, f2⟩ := I'.hok q _ hq'
    refine ⟨ks.toArray, ks2.toArray, k1, k2, f1, f2, by rw [List.size_toArray]; exact kv.length.symm, by rw [List.size_toArray]; exact kv2.length.symm.trans hl.symm, fun i h1 h2 => ?_⟩
    rw [List.size_toArray] at h1 h2
    obtain ⟨a, ha, ra⟩ := vals_at kv (List.getElem?_eq_getElem h1)
    obtain ⟨b, hb, rb⟩ := vals_at kv2 (List.getElem?_eq_getElem h2)
    obtain ⟨aa, bb, rfl, rfl, hsame, hcall⟩ := hJe i a b ha hb
    obtain ⟨⟨dx, fs, ea⟩, ⟨dy, gs, eb⟩, hsp⟩ := hcall H' j
    have e1 : ks.toArray[i]'(by rw [List.size_toArray]; exact h1) = Value.ref aa := by
      rw [List.getElem_toArray]
      exact ra
    have e2 : ks2.toArray[i]'(by rw [List.size_toArray]; exact h2) = Value.ref bb := by
      rw [List.getElem_toArray]
      exact rb
    rw [e1, e2]
    unfold eqBool
    refine wpAny_holding ?_
    by_cases hab : aa = bb
    · subst hab
      rw [if_pos (beq_self_eq_true _)]
      refine wpAny_bind (wpAny_rule ?_)
      exact wpAny_pure ⟨(hsame rfl).symm, H', I', j⟩
    · rw [if_neg (by simp [hab])]
      show wpAny _ _ (do let r ← richCompare .Eq (.ref aa) (.ref bb); truthOfDropped r) _ _ _
      obtain ⟨od, J1⟩ := inst_of I' ea
      obtain ⟨od2, J2⟩ := inst_of I' eb
      obtain ⟨m', hFr⟩ := I'.fr
      have hu1 := hr.in1.units
      refine wpAny_bind (PySem.W.cmp_K (by omega) hFr I'.ok.mod.kin J1 J2.type (tb := .ref C) (op := .Eq) nf_self T.eq T.fn (thn (run_fnR1 (us := [.ref aa, .ref bb]) (vs := [.ref aa, .ref bb]) F hr hx I' (.cons rfl (.cons rfl .nil)) hsp) fun w s2 ⟨z, H2, I2, rz, ez, j2⟩ => ?_))
      subst ez
      obtain rfl : w = Value.bool (e i) := rz
      exact wpAny_truthy_bool ⟨rfl, H2, I2, j2⟩
  · refine rcL_len (by omega) g1 g2 ?_ ⟨.bl false, H, I, rfl, hne hl⟩
    rw [List.size_toArray, List.size_toArray, ← hv.length, ← hv2.length]
    exact hl
end
section
variable {W : Wd} {Γ : Gam} {te tb : TE} {B : Bs} {C : Addr} {P : PT} {E : XK}
/-- xs == ys of stretches -/
theorem ev_eqLB {k : Bool → Prop} (hB : W.B = B) (hC : B.cl .Stretch = C) (hP : ∀ s t : Stc, P (fun z => z = T (decide (s = t))) (fun _ => False) [T s, T t]) (h : EvK W te Γ fun as : List Stc => EvK W tb Γ fun bs : List Stc => k (decide (as = bs))) : EvK W (tOp (rEqLB C (spG B P) E) te tb) Γ k := by
  subst hB
  subst hC
  refine ev_two (h.imp fun as ha => ha.imp fun bs z x y H Q o dx dy c => ?_)
  obtain ⟨p, vs, rfl, hp, hd⟩ := dx
  obtain ⟨q, ws, rfl, hq, hd2⟩ := dy
  refine ⟨p, q, vs, ws, fun i => decide (as[i]? = bs[i]?), rfl, rfl, hp.2, hq.2, fun hl => ?_, fun hl => ⟨fun H' => Ext W H H', Ext.refl o, fun H' e => ⟨e.keep _ _ hp.1 hp.2, e.keep _ _ hq.1 hq.2⟩, fun i a b ha hb => ?_, fun hall H' e => ?_, fun ⟨j, hj, hf⟩ H' e => ?_⟩⟩
  · refine c _ H false (Ext.refl o) rfl ?_
    have : ¬ as = bs := fun e => hl (by rw [hd.length, hd2.length, e])
    rw [decide_eq_false this] at z
    exact z
  · obtain ⟨s, hs, ds⟩ := hd.at ha
    obtain ⟨t, ht, dt⟩ := hd2.at hb
    have ds0 := ds
    have dt0 := dt
    obtain ⟨aa, dx, rfl, ma, e1⟩ := ds
    obtain ⟨bb, dy, rfl, mb, e2⟩ := dt
    refine ⟨aa, bb, rfl, rfl, fun hab => ?_, fun H' e => ⟨⟨dx, _, e.keep _ _ ma e1⟩, ⟨dy, _, e.keep _ _ mb e2⟩, W, _, _, _, rfl, e.ok, .cons (t := T s) (Rep.mono e.keep ds0) (.cons (t := T t) (Rep.mono e.keep dt0) .nil), hP s t, fun v H2 u e3 du eu => ?_, fun n d2 H2 _ _ z => z.elim⟩⟩
    · subst hab
      rw [e1] at e2
      have est : s = t := by
        cases s; cases t
        simp only [Option.some.injEq, HO.ins.injEq, stcF, List.cons.injEq, Prod.mk.injEq, V.int.injEq] at e2
        obtain ⟨_, _, ⟨_, h1⟩, ⟨_, h2⟩, _⟩ := e2
        rw [h1, h2]
      show decide (as[i]? = bs[i]?) = true
      rw [hs, ht, est]
      exact decide_eq_true rfl
    · subst eu
      refine ⟨?_, e.trans e3⟩
      obtain rfl : v = V.bl (decide (s = t)) := du
      show V.bl (decide (s = t)) = V.bl (decide (as[i]? = bs[i]?))
      rw [hs, ht]
      simp only [Option.some.injEq]
  · refine c _ H' true e rfl ?_
    have : as = bs := by
      refine List.ext_getElem? fun i => ?_
      by_cases hi : i < vs.length
      · exact of_decide_eq_true (hall i hi)
      · rw [List.getElem?_eq_none (by rw [← hd.length]; omega), List.getElem?_eq_none (by rw [← hd2.length]; omega)]
    rw [decide_eq_true this] at z
    exact z
  · refine c _ H' false e rfl ?_
    have : ¬ as = bs := fun ee => absurd hf (by rw [ee]; simp)
    rw [decide_eq_false this] at z
    exact z
end
end G
namespace G
open PySem PySem.Spec PyProof.Rows L2 StX
/-! ### Levels.of by what its list holds -/
def spLvOf (B : Bs) : Sp := fun vs H Q _ => ∃ (W : Wd) (p : Addr) (ws : List V) (ss : List Stc), W.B = B ∧ W.ok H ∧ W.wish H ∧ vs = [.ref (B.cl .Levels), .ref p] ∧ SqL B.K H p ws ∧ Dl (den W H) ws ss ∧ (ss.length ≤ 1000 ∧ ∀ s ∈ ss, s.lo ≤ s.hi) ∧
  ∀ v H', Ext W H H' → den W H' v (Lvs.mk (lvF ss)) → Q v H'
theorem lv_make {W : Wd} {B : Bs} {C : Addr} {E : L2.St → XK} {ss : List Stc} {ws : List V} {H : Hp} {σ : L2.St} {Q : VK} (hB : W.B = B) (hC : B.cl .Levels = C) (o : W.ok H) (w : W.wish H) (d : Dl (den W H) ws ss) (hl : ss.length ≤ 1000 ∧ ∀ s ∈ ss, s.lo ≤ s.hi)
    (c : ∀ v H', Ext W H H' → den W H' v (Lvs.mk (lvF ss)) → Q v H') : ∀ x dx, H x = none → H dx = none → dx ≠ x → spLS B (.ref x :: ws) (upd (upd H dx (.own x)) x (.ins C dx [])) (fun v H2 => v = .non ∧ Q (.ref x) H2) (E σ) := by
  have h : EvK W (tMakeZ C (spLS B) E (fun _ H' Q' => H' = H → Q' ws H')) [] fun y : Lvs => y = ⟨lvF ss⟩ :=
    ev_levels hB hC fun σ' H' Q' G' c' => fun e => by subst e; exact c' ws H' ss (Ext.refl o) d ⟨hl, rfl⟩
  exact h [] H Q ⟨o, w, fun i t h => by simp at h, rfl⟩ (fun v H' a e dv q => by subst q; exact c v H' e dv) rfl
section
variable {W W0 : Wd} {Γ : Gam} {te : TE} {B : Bs} {C : Addr} {E : L2.St → XK} {K : PySem.W.Frag}
theorem ev_lvOf_own {L : Own} {i : Nat} {p : Addr} {vs : List V} {ss : List Stc} {k : Lvs → Prop} (hW : OwnW W0 L W) (hm : (p, vs) ∈ L) (hB : W.B = B) (hC : B.cl .Levels = C) (hi : Γ[i]? = some (some (T (Ol.mk p vs ss)))) (hl : ss.length ≤ 1000 ∧ ∀ s ∈ ss, s.lo ≤ s.hi) (h : k ⟨lvF ss⟩) :
    EvK W (tCMethZ C (spLvOf B) E (tCons (tVar i) tNil)) Γ k := by
  subst hC
  refine fun σ H Q G c => ?_
  obtain ⟨h1, h2⟩ := ol_at G hi
  exact ⟨.ref p, h1, W, p, vs, ss, hB, G.ok, G.wish, rfl, .inl (.inl (hW.pin H G.ok _ hm)), h2, hl, fun v H' e d => c v H' _ e d h⟩
theorem ev_lvOf {k : Lvs → Prop} (hB : W.B = B) (hC : B.cl .Levels = C) (h : EvK W te Γ fun ss : List Stc => (ss.length ≤ 1000 ∧ ∀ s ∈ ss, s.lo ≤ s.hi) ∧ k ⟨lvF ss⟩) : EvK W (tCMethZ C (spLvOf B) E (tCons te tNil)) Γ k := by
  subst hB
  subst hC
  refine fun σ H Q G c => h σ H _ G fun v H1 ss e1 ⟨p, ws, hv, hp, hd⟩ ⟨hl, z⟩ => ?_
  exact ⟨W, p, ws, ss, rfl, e1.ok, (G.ext e1).wish, by rw [hv], hp.sq, hd, hl, fun v H' e d => c v H' _ (e1.trans e) d z⟩
end
section
variable {X : Cx}
theorem pe_joinK (K : PySem.W.Frag) {o e : Expr} {to te : TE} {apos pos : Pos} (h1 : L2.PE X o to) (h2 : L2.PE X e te) (hK : X.K = K := by rfl) (hs : starEach [e] X.env = [(false, eval e X.env)] := by rfl) (hab : attributeBase o (Str.ofString "join") X.env (eval o X.env) = eval o X.env := by rfl) (hl : (apos.endLine == pos.line) = true := by rfl) :
    L2.PE X ((o.Attribute (Str.ofString "join") apos).Call [e] [] pos)
      (tM1 (fun x xs H Q => ∃ a p, ∃ ys : List Str, x = V.str a ∧ xs = [V.ref p] ∧ (SqL K H p (ys.map V.str) ∨ SqT K H p (ys.map V.str)) ∧ (ys.map (·.length)).sum + ys.length * a.length ≤ 16777216 ∧ Q (V.str (Txt.join a ys)) H) to te) := by subst hK; exact pe_join h1 h2 hs hab hl
end
end G
set_option Elab.async false
set_option linter.all false
set_option maxRecDepth 100000
set_option maxHeartbeats 2000000
namespace G
open PySem PySem.Spec PyProof.Rows L2 StX
/-! ### sorted of a set of any size -/
theorem sorted_setN {P : Program} {w : World} {A : Around} {E : Value → Shared → Prop} {s : Shared} {a : Addr} {S : Int → Bool} {n : Nat} {Q : Value → Shared → Prop} (hS : SetR w s.heap a S n) (hd : A.handled = none)
    (q : ∀ (s' : Shared) (p : Nat) (out : Array Value) (c : Nat) (ns : List Int), (∀ (b : Addr) (o : Obj), s.heap.get? b = some o → s'.heap.get? b = some o) → s'.gens = s.gens → s'.os = s.os → s.heap.objs.size ≤ p →
      s'.heap.get? p = some (PyProof.Rows.seqObj "list" out c) → PyProof.Rows.IntsAre out.toList ns → ns.Pairwise (· < ·) → (∀ k : Int, k ∈ ns ↔ S k = true) → ns.length = n → Q (Value.ref p) s') :
    wpAny (model P w) A (call (Value.builtin "sorted") [Value.ref a]) Q E s := by
  obtain ⟨o, es, ep, t, hg, hx, hdat, hgood, hnd, hSk, hsc, hfit, hsz, hris, hled⟩ := hS
  refine Calls.call_function_entry PyProof.Rows.kind_sorted PyProof.Rows.plain_sorted PyProof.Rows.entry_sorted (PyProof.Rows.args_sorted1 _) ?_
  refine wpAny_bind (wpAny_of_eq (a := ()) rfl ?_)
  refine wpAny_bind (collect_set hd ⟨o, hg, hx.1, hdat⟩ hfit hsc hris hled fun s' out hk hsz' hgens hos hperm => ?_)
  have hlen : out.length = n := by
    rw [hperm.length_eq, List.length_map, Array.length_toList, hsz]
  have hsl : out.length ≤ sizeLine := by
    rw [hlen, ← hsz]
    exact Nat.le_trans (Nat.le_of_lt hsc) (by decide)
  refine wpAny_bind (wpAny_newList ?_ hsl)
  have hints : ∀ v ∈ out, ∃ k tk, v = Value.int k tk := fun v hv => by
    obtain ⟨e, he, rfl⟩ := List.mem_map.mp (hperm.mem_iff.mp hv)
    obtain ⟨k, tk, h1, _⟩ := hgood e he
    exact ⟨k, tk, h1⟩
  have hia := ints_of out hints
  have hraw : ∀ v, keyOf (0, v) = Builtin.Re.reRawOf v := fun v => by cases v <;> rfl
  have hkeys : (out.map Builtin.Re.reRawOf).Perm (es.toList.map keyOf) := by
    have h := hperm.map Builtin.Re.reRawOf
    rw [List.map_map] at h
    refine h.trans (List.Perm.of_eq (List.map_congr_left fun e _ => ?_))
    cases h2 : e.2 <;> simp [keyOf, Builtin.Re.reRawOf, h2]
  have hget : (s'.heap.push { cls := Value.type "list", data := Data.seq out.toArray }).get? s'.heap.objs.size = some (PyProof.Rows.seqObj "list" out.toArray 0) := Heap.get?_push_size _ rfl
  have hsp := PyProof.Rows.size_push' s'.heap { cls := Value.type "list", data := Data.seq out.toArray }
  refine wpAny_bind (wpAny_holding (wpAny_call_entry PyProof.Rows.slot_list_sort ⟨_, hget, rfl⟩ PyProof.Rows.entry_list_sort (SrtO.list_sort_ord (vs := out) SrtO.swo_int hget hsl (fun h2 => SrtO.ints_sortable hia h2) fun out2 hst hsb => ⟨.none, rfl, ?_⟩) (PyProof.Rows.args_list_sort _)))
  obtain ⟨i1, i2, i3⟩ := SrtO.ints_out hia hst hsb
  obtain ⟨c, hc⟩ := PyProof.Rows.sortedHeap_at (out := out2.toArray) hget
  refine wpAny_of_eq (a := Fin.done (.ret (.ref s'.heap.objs.size))) rfl ⟨_, rfl, ?_⟩
  have hkp : (out2.map SrtO.iv).Perm (es.toList.map keyOf) := i2.trans hkeys
  refine q _ s'.heap.objs.size out2.toArray c (out2.map SrtO.iv) (fun b o2 h2 => ?_) hgens hos hsz' hc (by rw [List.toList_toArray]; exact i1) (lt_of_le_nodup _ i3 (hkp.nodup_iff.mpr hnd)) (fun k => ?_) (by rw [hkp.length_eq, List.length_map, Array.length_toList, hsz])
  · have h3 := hk b o2 h2
    have hlt := Heap.lt_size h3
    rw [PyProof.Rows.sortedHeap_old (Nat.ne_of_lt hlt) (by rw [hsp]; exact Nat.lt_succ_of_lt hlt)]
    exact Heap.get?_push_of_some _ h3
  · rw [hSk k]
    exact hkp.mem_iff
/-- sorted(s) of a set of ints -/
def rSortedSetN (w : World) : List V → Hp → VK → Prop := fun vs H Q => ∃ (a : Addr) (S : Int → Bool) (n : Nat), vs = [V.ref a] ∧ H a = some (SetO w a S n) ∧ ∀ (ns : List Int) (p : Addr), ns.Pairwise (· < ·) → (∀ k : Int, k ∈ ns ↔ S k = true) → ns.length = n → H p = none → Q (.ref p) (upd H p (.lst (ns.map V.int)))
section
variable {X : Cx}
theorem cr_sortedSetN (w : World) (hc : X.calm = true) (hw : X.w = w := by rfl) : CallR X (.builtin "sorted") (rSortedSetN w) := by
  subst hw
  intro pins s σ H xs us Q I r h
  obtain ⟨a, S, n, rfl, ha, q⟩ := h
  obtain ⟨u, rfl, rx⟩ := vals1 r
  obtain rfl : u = Value.ref a := rx
  have hS := setO_get I ha
  have hn : n < scanBound := by
    obtain ⟨o, es, ep, t, _, _, _, _, _, _, hsc, _, hsz, _⟩ := hS
    omega
  refine sorted_setN hS (I.ok.hd hc) fun s' p out c ns hk hg hos hp hget hia hpw hmem hlen => ?_
  have hf : H p = none := I.hok.fresh hp
  have hv := vals_of_ints hia
  have hob : ObjOk X.prog X.w (upd H p (.lst (ns.map V.int))) s'.heap p (.lst (ns.map V.int)) := by
    unfold L2.ObjOk
    refine ⟨by rw [List.length_map, hlen]; exact Nat.le_trans (Nat.le_of_lt hn) (by decide), out.toList, c, hv, ?_⟩
    rw [hget]
  exact ⟨.ref p, _, I.call' (ch := []) hos (Un.laid hk hp hf) (I.hok.laid hk hp hob) (by rw [hg]; exact I.bare) (fun b hb => nomatch hb), rfl, q ns p hpw hmem hlen hf⟩
end
end G
namespace G
open PySem PySem.Spec PyProof.Rows L2 StX
theorem ev_sortedSetN {W : Wd} {Γ : Gam} {te : TE} {w : World} {k : List Int → Prop} (h : EvK W te Γ fun s : IS => s.w = w ∧ ∀ ns : List Int, ns.Pairwise (· < ·) → (∀ j, j ∈ ns ↔ s.S j = true) → ns.length = s.n → k ns) : EvK W (tCB (rSortedSetN w) (tCons te tNil)) Γ k := by
  refine fun σ H Q G c => h σ H _ G fun v H1 s e1 ⟨a, hv, m, ha⟩ ⟨hw, z⟩ => ?_
  subst hw
  refine ⟨a, s.S, s.n, by rw [hv], ha, fun ns p h1 h2 h3 hp => ?_⟩
  have e2 := Ext.new (o := .lst (ns.map V.int)) e1.ok hp
  exact c (.ref p) _ ns (e1.trans e2) ⟨p, _, rfl, Lq.new (fresh_mu e1.ok hp) upd_same, Dl.of_ints ns⟩ (z ns h1 h2 h3)
end G
set_option Elab.async false
set_option linter.all false
set_option maxRecDepth 100000
set_option maxHeartbeats 2000000
namespace G
open PySem PySem.Spec PyProof.Rows L2 StX
/-! ### own lists that grow in number -/
theorem wc_ext {W1 W2 : Wc} (h1 : W1.B = W2.B) (h2 : ∀ a, W1.mu a ↔ W2.mu a) (h3 : W1.box = W2.box) : W1 = W2 := by
  cases W1; cases W2
  cases h1
  cases h3
  congr 1
  funext a
  exact propext (h2 a)
theorem grow_sub {W : Wc} {H : Hp} {v : V} {t : Ty} {ks ks' : List Addr} (hs : ∀ k ∈ ks, k ∈ ks') (hn : ∀ k ∈ ks', k ∈ ks ∨ H k = none) (h : t.den (W.plusL ks) H v) : t.den (W.plusL ks') H v := by
  have e : (W.plusL ks).plusL (ks'.filter fun k => !decide (k ∈ ks)) = W.plusL ks' := by
    refine wc_ext ?_ (fun a => ?_) ?_
    · rw [plusL_B, plusL_B, plusL_B]
    · rw [plusL_mu, plusL_mu, plusL_mu, List.mem_filter]
      constructor
      · rintro ((h | h) | ⟨h, _⟩)
        · exact .inl h
        · exact .inr (hs a h)
        · exact .inr h
      · rintro (h | h)
        · exact .inl (.inl h)
        · by_cases q : a ∈ ks
          · exact .inl (.inr q)
          · exact .inr ⟨h, by simp [q]⟩
    · rw [plusL_box, plusL_box, plusL_box]
  rw [← e]
  refine growL (fun k hk => ?_) h
  obtain ⟨h1, h2⟩ := List.mem_filter.mp hk
  exact (hn k h1).resolve_left (by simpa using h2)
/-- an address, whatever stands there -/
structure Rf where
  a : Addr
instance : Rep Rf := ⟨fun _ _ v r => v = .ref r.a, fun _ h => h, fun _ _ h => h, fun _ h => h⟩
instance : NoLst Rf := ⟨fun _ h => h⟩
section
variable {W : Wd} {F : Hp} {L : Own} {Γ : Gam} {ta tb te to : TE} {tt : TT} {t u : TS} {R : PoM} {g : TG}
/-- for x in a list, with own lists, some of them new -/
theorem sxm_forG {α : Type} {rα : Rep α} {K : PySem.W.Frag} (hK : W.B.K = K) (h : ∀ Wo, OwnW W L Wo → EvK Wo te Γ fun as : List α => ∃ I : Nat → Own → Gam → Prop, I 0 L Γ ∧
      (∀ i L' Γ', I i L' Γ' → ∀ k ∈ keys L, k ∈ keys L') ∧
      (∀ (i : Nat) (a : α) L' Γ', as[i]? = some a → I i L' Γ' → ∀ Wo', OwnW W L' Wo' → Tg Wo' g Γ' a fun Γ1 => SxM W F t L' Γ1 { R with nx := I (i + 1), ct := I (i + 1), bk := R.nx }) ∧ ∀ L' Γ', I as.length L' Γ' → R.nx L' Γ') : SxM W F (tFor (iList K te) g t) L Γ R := by
  subst hK
  refine fun D σ H oF nF wF nd G O => h _ (own_w wF) σ H _ G fun v H1 as e1 ⟨p, vs, hv, hp, hd⟩ ⟨I, h0, hI, hs, hl⟩ => ?_
  have hB : (W.own F L oF nF).B.K = W.B.K := congrArg Bs.K plusL_B
  have G1 := G.ext e1
  have O1 := O.step G1.ok.1 (own_stp e1)
  have sq : ∀ H', Kp (W.toWc.plusL (keys L)) H1 H' → SqL W.B.K H' p vs := fun H' kk => .inl (.inl (kk _ _ hp.1 hp.2))
  refine ⟨p, hv, ⟨vs, sq H1 fun _ _ _ z => z⟩, for_list (K := W.B.K) (a := p) (xs := vs) (fun i σ' H' => ∃ L' oF nF Γ', Stp W L H1 L' H' ∧ (keys L').Nodup ∧ GOk (W.own F L' oF nF) H' σ' Γ' ∧ I i L' Γ') ⟨L, oF, nF, Γ, .refl, nd, G1, h0⟩ (fun i σ' H' _ ⟨L', _, _, Γ', s, _⟩ => sq H' s.1) ?_ ?_⟩
  · rintro i x σ' H' hx ⟨L', oF', nF', Γ', s, nd', G', q⟩
    obtain ⟨a, ha, da⟩ := hd.at hx
    obtain ⟨js, hj⟩ := hs i a L' Γ' ha q _ (own_w (oF := oF') (nF := nF') wF)
    have da1 : den (W.toWc.plusL (keys L')) H1 x a := grow_sub (t := T a) (hI i L' Γ' q) s.2 da
    have da' : den (W.own F L' oF' nF').toWc H' x a := Rep.mono (W := W.toWc.plusL (keys L')) (fun b o m z => s.1 b o (fun q2 => m (plusL_mu.mpr ((plusL_mu.mp q2).imp id (hI i L' Γ' q b)))) z) da1
    refine hj σ' H' x _ G' da' fun σ2 Γ2 G2 _ q2 => ?_
    exact q2 _ σ2 H' oF' nF' wF nd' G2 ⟨fun L3 oF3 nF3 σ3 H3 Γ3 s3 nd3 G3 q3 => ⟨L3, oF3, nF3, Γ3, s.trans G'.ok.1 s3, nd3, G3, q3⟩, fun v3 H3 t3 e3 d3 q3 => O.rt v3 H3 t3 e3 d3 q3,
      fun L3 oF3 nF3 σ3 H3 Γ3 s3 nd3 G3 q3 => O1.nx L3 oF3 nF3 σ3 H3 Γ3 (s.trans G'.ok.1 s3) nd3 G3 q3, fun L3 oF3 nF3 σ3 H3 Γ3 s3 nd3 G3 q3 => ⟨L3, oF3, nF3, Γ3, s.trans G'.ok.1 s3, nd3, G3, q3⟩⟩
  · rintro σ' H' ⟨L', oF', nF', Γ', s, nd', G', q⟩
    rw [hd.length] at q
    exact O1.nx L' oF' nF' σ' H' Γ' s nd' G' (hl L' Γ' q)
/-- the own lists after one of them is changed at its place -/
def Chg1 (L L' : Own) (q : Addr) (vs' : List V) : Prop := keys L' = keys L ∧ ∀ x, x ∈ L' ↔ x = (q, vs') ∨ (x ∈ L ∧ x.1 ≠ q)
theorem chg1_set {k : Nat} {q : Addr} {vs vs' : List V} (nd : (keys L).Nodup) (hk : L[k]? = some (q, vs)) : Chg1 L (L.set k (q, vs')) q vs' := by
  have hl : k < L.length := (List.getElem?_eq_some_iff.mp hk).1
  refine ⟨keys_set hk, fun x => ⟨fun hx => ?_, fun hx => ?_⟩⟩
  · obtain ⟨j, hj⟩ := List.getElem?_of_mem hx
    rw [List.getElem?_set] at hj
    by_cases e : k = j
    · rw [if_pos e, if_pos hl] at hj
      exact .inl (Option.some.inj hj).symm
    · rw [if_neg e] at hj
      refine .inr ⟨List.mem_of_getElem? hj, fun z => ?_⟩
      have h1 : (keys L)[j]? = some q := by rw [List.getElem?_map, hj, ← z]; rfl
      have h2 : (keys L)[k]? = some q := by rw [List.getElem?_map, hk]; rfl
      exact e ((List.getElem?_inj (by rw [List.length_map]; exact hl) nd).mp (h2.trans h1.symm))
  · rcases hx with rfl | ⟨hx, hne⟩
    · exact List.mem_of_getElem? (List.getElem?_set_self hl)
    · obtain ⟨j, hj⟩ := List.getElem?_of_mem hx
      have e : k ≠ j := fun e => by
        subst e
        rw [hk] at hj
        cases hj
        exact hne rfl
      exact List.mem_of_getElem? (by rw [List.getElem?_set_ne e]; exact hj)
/-- an own list without a slot changes at its place -/
theorem own_put0 {H : Hp} {σ : L2.St} {D : Ends} {oF : W.ok F} {nF : ∀ k ∈ keys L, F k = none} {k : Nat} {p : Addr} {vs vs' : List V} (nd : (keys L).Nodup) (G : GOk (W.own F L oF nF) H σ Γ) (O : EOkM W F L H D R)
    (hk : L[k]? = some (p, vs)) (hs : ∀ (i : Nat) (α : Type) (rα : Rep α) (ws : List V) (as : List α), Γ[i]? = some (some (@T (Ol α) _ (Ol.mk p ws as))) → True) (q : R.nx (L.set k (p, vs')) Γ) : D.nx σ (upd H p (.lst vs')) := by
  have hks : keys (L.set k (p, vs')) = keys L := keys_set hk
  have hmem : p ∈ keys L := List.mem_map.mpr ⟨_, List.mem_of_getElem? hk, rfl⟩
  have kp : Kp (W.toWc.plusL (keys L)) H (upd H p (.lst vs')) := fun b o m z => by
    have hne : b ≠ p := fun e => m (plusL_mu.mpr (.inr (by rw [e]; exact hmem)))
    rw [upd_ne hne]
    exact z
  have nF' : ∀ k' ∈ keys (L.set k (p, vs')), F k' = none := fun k' h => nF k' (by rw [hks] at h; exact h)
  have nmu : ¬ W.mu p := fresh_mu oF (nF p hmem)
  have s : Stp W L H (L.set k (p, vs')) (upd H p (.lst vs')) := ⟨kp, fun k' h => .inl (by rw [hks] at h; exact h)⟩
  have G2 : GOk (W.own F (L.set k (p, vs')) oF nF') (upd H p (.lst vs')) σ Γ := by
    refine ⟨⟨W.st _ _ _ G.ok.1 nmu, fun x hx => ?_⟩, fun a o m z => ?_, fun j t ht => ?_, G.len⟩
    · rcases (chg1_set nd hk).2 x |>.mp hx with rfl | ⟨hx, hne⟩
      · exact upd_same
      · rw [upd_ne hne]
        exact G.ok.2 x hx
    · have hne : a ≠ p := fun e => by rw [e, nF p hmem] at z; cases z
      rw [upd_ne hne]
      exact G.wish a o m z
    · show ∃ v, σ[j]? = some (some v) ∧ t.den (W.toWc.plusL (keys (L.set k (p, vs')))) _ v
      rw [hks]
      obtain ⟨v, h1, h2⟩ := G.at_ j t ht
      exact ⟨v, h1, Ty.mono kp h2⟩
  exact O.nx _ oF nF' σ _ _ s (by rw [hks]; exact nd) G2 q
/-- r.append(i), r one of the own lists, by its address -/
theorem sxm_appendRf {K : PySem.W.Frag} (h : ∀ Wo, OwnW W L Wo → EvK Wo to Γ fun r : Rf => ∃ ns : List Int, (r.a, ns.map V.int) ∈ L ∧ ns.length < 100000 ∧ EvK Wo te Γ fun a : Int => ∀ L', Chg1 L L' r.a ((ns ++ [a]).map V.int) → R.nx L' Γ) :
    SxM W F (tDrop (tBM K "list" rAppend to (tCons te tNil))) L Γ R := fun D σ H oF nF wF nd G O => by
  refine h _ (own_w wF) σ H _ G fun v H1 r e1 d ⟨ns, hm, hl, h2⟩ => ?_
  obtain rfl : v = V.ref r.a := d
  have G1 := G.ext e1
  refine ⟨.inl ⟨rfl, _, .inl (.inl (G1.ok.2 _ hm))⟩, ?_⟩
  refine h2 σ H1 _ G1 fun w H2 a e2 da q => ?_
  obtain rfl : w = V.int a := da
  have G2 := G1.ext e2
  refine ⟨r.a, ns.map V.int, .int a, rfl, rfl, G2.ok.2 _ hm, Nat.lt_of_lt_of_le (by rw [List.length_map]; exact hl) (by decide : 100000 ≤ sizeLine), ?_⟩
  obtain ⟨k, hk⟩ := List.getElem?_of_mem hm
  have e : (ns.map V.int) ++ [V.int a] = (ns ++ [a]).map V.int := by rw [List.map_append]; rfl
  rw [e]
  exact own_put0 nd G2 (O.step G2.ok.1 (own_stp (e1.trans e2))) hk (fun _ _ _ _ _ _ => trivial) (q _ (chg1_set nd hk))
/-- xs.append([..]), a new own list into an own one -/
theorem sxm_appendNew {K : PySem.W.Frag} {i : Nat} {p : Addr} {vs : List V} {as : List Rf} (hm : (p, vs) ∈ L) (hi : Γ[i]? = some (some (T (Ol.mk p vs as)))) (hl : as.length < 100000)
    (h : ∀ Wo, OwnW W L Wo → EvF Wo te Γ fun ns : List Int => ∀ q L', q ∉ keys L → Chg1 ((q, ns.map V.int) :: L) L' p (vs ++ [.ref q]) → R.nx L' (Γ.set i (some (T (Ol.mk p (vs ++ [.ref q]) (as ++ [Rf.mk q])))))) : SxM W F (tDrop (tBM K "list" rAppend (tVar i) (tCons te tNil))) L Γ R := fun D σ H oF nF wF nd G O => by
  obtain ⟨h1, h2⟩ := ol_at G hi
  refine ⟨_, h1, .inl ⟨rfl, _, .inl (.inl (G.ok.2 _ hm))⟩, ?_⟩
  refine h _ (own_w wF) σ H _ G fun q H1 ws ns n e hq hb kq => ?_
  have nFq : F q = none := fresh_F G.ok.1 G.wish n
  have hws : ws = ns.map V.int := Dl.ints hb
  subst hws
  have hpk : q ∉ keys L := fun hk => by
    obtain ⟨x, hx, e1⟩ := List.mem_map.mp hk
    have := G.ok.2 x hx
    rw [e1, n] at this
    cases this
  have nF' : ∀ k ∈ keys ((q, ns.map V.int) :: L), F k = none := fun k hk => by
    rcases List.mem_cons.mp hk with rfl | hk
    · exact nFq
    · exact nF k hk
  have s : Stp W L H ((q, ns.map V.int) :: L) H1 := ⟨e.keep, fun k hk => by
    rcases List.mem_cons.mp hk with rfl | hk
    · exact .inr n
    · exact .inl hk⟩
  have G1 := G.ext e
  have kp : Kp ((W.toWc.plusL (keys L)).plus q) H H1 := fun b o m z => e.keep b o (fun z => m (.inl z)) z
  have G2 : GOk (W.own F ((q, ns.map V.int) :: L) oF nF') H1 σ Γ := ⟨⟨G1.ok.1, fun x hx => by
    rcases List.mem_cons.mp hx with rfl | hx
    · exact hq
    · exact G1.ok.2 x hx⟩, G1.wish, fun j t ht => by
      obtain ⟨v, h1, h2⟩ := G.at_ j t ht
      exact ⟨v, h1, Ty.mono kp (t.r.grow q n h2)⟩, G.len⟩
  have nd2 : (keys ((q, ns.map V.int) :: L)).Nodup := List.nodup_cons.mpr ⟨hpk, nd⟩
  have hm2 : (p, vs) ∈ (q, ns.map V.int) :: L := List.mem_cons_of_mem _ hm
  obtain ⟨k, hk⟩ := List.getElem?_of_mem hm2
  refine ⟨p, vs, .ref q, rfl, rfl, G2.ok.2 _ hm2, Nat.lt_of_lt_of_le (by rw [h2.length]; exact hl) (by decide : 100000 ≤ sizeLine), ?_⟩
  have h3 : Dl (den (W.toWc.plusL (keys ((q, ns.map V.int) :: L))) H1) (vs ++ [.ref q]) (as ++ [Rf.mk q]) := Dl.append (h2.imp fun _ _ d => d) (.cons rfl .nil)
  exact own_put nd2 G2 (O.step G2.ok.1 s) hk h1 h3 (kq q _ hpk (chg1_set nd2 hk))
end
end G
namespace G
open PySem PySem.Spec PyProof.Rows L2 StX
section
variable {W : Wd} {F : Hp} {L : Own} {Γ : Gam} {ta tb te to : TE} {tt : TT} {t u : TS} {R : PoM} {g : TG} {K : PySem.W.Frag}
/-- r[i] of an own list of ints, by its address -/
theorem ev_ixRf {k : Int → Prop} (hK : W.B.K = K) (h : EvK W ta Γ fun r : Rf => ∃ ns : List Int, (∀ H, W.ok H → H r.a = some (.lst (ns.map V.int))) ∧ EvK W tb Γ fun i : Int => ∃ n, atI ns i = some n ∧ k n) : EvK W (tOp (rIxL K) ta tb) Γ k := by
  subst hK
  refine fun σ H Q G c => h σ H _ G fun v H1 r e1 d ⟨ns, hp, h2⟩ => h2 σ H1 _ (G.ext e1) fun w H2 i e2 d2 ⟨n, hn, z⟩ => ?_
  obtain rfl : v = V.ref r.a := d
  obtain rfl : w = V.int i := d2
  have hat : atI (ns.map V.int) i = some (V.int n) := by
    unfold atI at hn ⊢
    rw [List.length_map]
    cases q : ixN ns.length i with
    | none => rw [q] at hn; cases hn
    | some j =>
      rw [q, Option.bind_some] at hn
      rw [Option.bind_some, List.getElem?_map, hn]
      rfl
  exact ⟨r.a, ns.map V.int, i, .int n, rfl, rfl, .inl (.inl (hp H2 e2.ok)), hat, c _ H2 n (e1.trans e2) rfl z⟩
/-- [te for g in an own list if tt] -/
theorem evF_lcOwn {α β : Type} {rα : Rep α} {rβ : Rep β} {vs : List Nat} {k : List β → Prop} {i : Nat} {p : Addr} {xs : List V} {as : List α} (hK : W.B.K = K) (pin : ∀ H, W.ok H → H p = some (.lst xs)) (hi : Γ[i]? = some (some (T (Ol.mk p xs as)))) (hl : as.length ≤ 100000)
    (h : ∃ I : Nat → List β → Prop, I 0 [] ∧ (∀ W', Sub W W' → ∀ (i : Nat) (a : α) (bs : List β), as[i]? = some a → I i bs → LcTurn W' g tt te vs Γ a (I (i + 1) bs) fun y : β => I (i + 1) (bs ++ [y])) ∧ ∀ bs, I as.length bs → k bs) :
    EvF W (tLc (iList K (tVar i)) g tt te vs) Γ k := by
  subst hK
  obtain ⟨I, h0, hs, hf⟩ := h
  refine fun σ H1 Q E c => ?_
  obtain ⟨h1, hd⟩ := ol_at E hi
  refine ⟨.ref p, h1, p, rfl, ⟨xs, .inl (.inl (pin H1 E.ok))⟩, fun D n => ?_⟩
  have G1 := E
  have eD : Ext W H1 (upd H1 D (.lst [])) := Ext.new E.ok n
  refine lc_list (xs := xs) (fun i H' => Ext W H1 H' ∧ ∃ acc bs, H' D = some (.lst acc) ∧ Dl (den (W.toWc.plus D) H') acc bs ∧ acc.length ≤ i ∧ I i bs) ⟨eD, [], [], upd_same, .nil, Nat.le_refl _, h0⟩ (fun i H' _ ⟨e, _⟩ => .inl (.inl (pin H' e.ok))) ?_ ?_
  · rintro i x H' hx ⟨e, acc, bs, hD, hb, ha, q⟩
    obtain ⟨a, ea, da⟩ := hd.at hx
    have hil : i < as.length := (List.getElem?_eq_some_iff.mp ea).1
    exact lc_turn (I := I (i + 1)) (P := fun H' => Ext W H1 H' ∧ ∃ acc bs, H' D = some (.lst acc) ∧ Dl (den (W.toWc.plus D) H') acc bs ∧ acc.length ≤ i + 1 ∧ I (i + 1) bs) (hs _ (Sub.plus (n := n) (o1 := E.ok) (w1 := G1.wish)) i a bs ea q) G1 e hD hb da (by omega) fun H2 acc2 bs2 e2 hD2 hb2 hl2 q2 => ⟨e2, acc2, bs2, hD2, hb2, by omega, q2⟩
  · rintro H' ⟨e, acc, bs, hD, hb, ha, q⟩
    rw [hd.length] at q
    exact c D H' acc bs n e hD hb (hf bs q)
/-- list(xs), xs an own list of addresses -/
theorem ev_listOwn {k : List Rf → Prop} {i : Nat} {p : Addr} {xs : List V} {as : List Rf} (hK : W.B.K = K) (pin : ∀ H, W.ok H → H p = some (.lst xs)) (hi : Γ[i]? = some (some (T (Ol.mk p xs as)))) (h : k as) :
    EvK W (tCB (fun xs H Q => ∃ p ys, xs = [V.ref p] ∧ (SqL K H p ys ∨ SqT K H p ys) ∧ ∀ l, H l = none → Q (V.ref l) (upd H l (HO.lst ys))) (tCons (tVar i) tNil)) Γ k := by
  subst hK
  refine fun σ H Q G c => ?_
  obtain ⟨h1, hd⟩ := ol_at G hi
  refine ⟨.ref p, h1, p, xs, rfl, .inl (.inl (.inl (pin H G.ok))), fun l hl => ?_⟩
  have e2 := Ext.new (o := .lst xs) G.ok hl
  exact c (.ref l) _ as e2 ⟨l, xs, rfl, Lq.new (fresh_mu G.ok hl) upd_same, hd.imp fun _ _ d => d⟩ h
theorem dl_of_at {α : Type} {f : V → α → Prop} : ∀ {vs : List V} {as : List α}, vs.length = as.length → (∀ (i : Nat) (v : V) (a : α), vs[i]? = some v → as[i]? = some a → f v a) → Dl f vs as
  | [], [], _, _ => .nil
  | [], _ :: _, h, _ => nomatch h
  | _ :: _, [], h, _ => nomatch h
  | v :: vs, a :: as, h, k => .cons (k 0 v a rfl rfl) (dl_of_at (by simpa using h) fun i w b h1 h2 => k (i + 1) w b (by simpa using h1) (by simpa using h2))
/-- the own lists hold lots: p the outer list, qs the inner ones -/
def LotsI (L : Own) (p : Addr) (qs : List Addr) (nss : List (List Int)) : Prop := (p :: qs).Nodup ∧ (p, qs.map V.ref) ∈ L ∧ qs.length = nss.length ∧ ∀ (i : Nat) (q : Addr) (ns : List Int), qs[i]? = some q → nss[i]? = some ns → (q, ns.map V.int) ∈ L
theorem lots_new {L' : Own} {p q : Addr} {qs : List Addr} {nss : List (List Int)} {ns : List Int} (h : LotsI L p qs nss) (hq : q ∉ keys L) (c : Chg1 ((q, ns.map V.int) :: L) L' p (qs.map V.ref ++ [.ref q])) : LotsI L' p (qs ++ [q]) (nss ++ [ns]) := by
  obtain ⟨h1, h2, h3, h4⟩ := h
  have hk : ∀ x ∈ L, x.1 ≠ q := fun x hx e => hq (List.mem_map.mpr ⟨x, hx, e⟩)
  have hpq : p ≠ q := hk _ h2
  have hqs : ∀ x ∈ qs, x ≠ q := fun x hx => by
    obtain ⟨i, hi⟩ := List.getElem?_of_mem hx
    have hil := (List.getElem?_eq_some_iff.mp hi).1
    exact hk _ (h4 i x _ hi (List.getElem?_eq_getElem (by omega)))
  obtain ⟨n1, n2⟩ := List.nodup_cons.mp h1
  refine ⟨List.nodup_cons.mpr ⟨fun hm => ?_, List.nodup_append.mpr ⟨n2, by simp, fun a ha b hb => by rw [List.mem_singleton.mp hb]; exact hqs a ha⟩⟩, ?_, by rw [List.length_append, List.length_append, h3]; rfl, fun i r ms hr hms => ?_⟩
  · rcases List.mem_append.mp hm with hm | hm
    · exact n1 hm
    · exact hpq (List.mem_singleton.mp hm)
  · rw [List.map_append]
    exact (c.2 _).mpr (.inl rfl)
  · by_cases e : i < qs.length
    · rw [List.getElem?_append_left e] at hr
      rw [List.getElem?_append_left (by omega)] at hms
      refine (c.2 _).mpr (.inr ⟨List.mem_cons_of_mem _ (h4 i r ms hr hms), fun z => ?_⟩)
      have z' : r = p := z
      exact n1 (z' ▸ List.mem_of_getElem? hr)
    · have e2 : i = qs.length := by
        have := (List.getElem?_eq_some_iff.mp hr).1
        rw [List.length_append, List.length_singleton] at this
        omega
      subst e2
      rw [List.getElem?_append_right (Nat.le_refl _), Nat.sub_self] at hr
      rw [h3, List.getElem?_append_right (Nat.le_refl _), Nat.sub_self] at hms
      cases hr
      cases hms
      exact (c.2 _).mpr (.inr ⟨List.mem_cons_self, fun z => hpq z.symm⟩)
theorem lots_set {L' : Own} {p q : Addr} {qs : List Addr} {nss : List (List Int)} {ns : List Int} {i0 : Nat} (h : LotsI L p qs nss) (hq : qs[i0]? = some q) (c : Chg1 L L' q (ns.map V.int)) : LotsI L' p qs (nss.set i0 ns) := by
  obtain ⟨h1, h2, h3, h4⟩ := h
  obtain ⟨n1, n2⟩ := List.nodup_cons.mp h1
  have hqm : q ∈ qs := List.mem_of_getElem? hq
  have hil := (List.getElem?_eq_some_iff.mp hq).1
  refine ⟨h1, (c.2 _).mpr (.inr ⟨h2, fun z => n1 (by have z' : p = q := z; rw [z']; exact hqm)⟩), by rw [List.length_set]; exact h3, fun i r ms hr hms => ?_⟩
  by_cases e : i0 = i
  · subst e
    rw [hq] at hr
    cases hr
    rw [List.getElem?_set_self (by omega)] at hms
    cases hms
    exact (c.2 _).mpr (.inl rfl)
  · rw [List.getElem?_set_ne e] at hms
    refine (c.2 _).mpr (.inr ⟨h4 i r ms hr hms, fun z => e ?_⟩)
    have z' : r = q := z
    subst z'
    exact (List.getElem?_inj hil n2).mp (hq.trans hr.symm)
theorem lots_nil {p : Addr} : LotsI [(p, [])] p [] [] := ⟨by simp, List.mem_cons_self, rfl, fun i q ns h => by simp at h⟩
/-- return xs, the lots as they stand -/
theorem sxm_retLots {i : Nat} {p : Addr} {qs : List Addr} {nss : List (List Int)} {as : List Rf} (hi : Γ[i]? = some (some (T (Ol.mk p (qs.map V.ref) as)))) (hL : LotsI L p qs nss) (h : R.rt (T nss)) : SxM W F (tRet (tVar i)) L Γ R := fun D σ H oF nF wF nd G O => by
  obtain ⟨h1, _⟩ := ol_at G hi
  obtain ⟨n1, hm, hl, hq⟩ := hL
  have nm : ∀ x ∈ L, ¬ W.mu x.1 := fun x hx => fresh_mu oF (nF x.1 (List.mem_map.mpr ⟨x, hx, rfl⟩))
  refine ⟨_, h1, O.rt (.ref p) H (T nss) ⟨G.wish, G.ok.1⟩ ⟨p, qs.map V.ref, rfl, ⟨nm _ hm, G.ok.2 _ hm⟩, dl_of_at (by rw [List.length_map]; exact hl) fun i v ns hv hns => ?_⟩ h⟩
  rw [List.getElem?_map] at hv
  cases e : qs[i]? with
  | none => rw [e] at hv; cases hv
  | some q =>
    rw [e] at hv
    cases hv
    have := hq i q ns e hns
    exact ⟨q, ns.map V.int, rfl, ⟨nm _ this, G.ok.2 _ this⟩, Dl.of_ints ns⟩
end
section
variable {X : Cx}
theorem call_list_ofK (K : PySem.W.Frag) (hK : X.K = K := by rfl) : CallR X (.type "list") fun xs H Q => ∃ p ys, xs = [V.ref p] ∧ (SqL K H p ys ∨ SqT K H p ys) ∧ ∀ l, H l = none → Q (V.ref l) (upd H l (HO.lst ys)) := by subst hK; exact call_list_of
end
/-! ### first fit -/
def fitB (hs : List Int) (low : Int) (lot : List Int) : Bool := match lot.getLast? with
  | some j => decide (hs.getD j.toNat 0 < low)
  | none => false
def placeF (hs : List Int) (low at_ : Int) : List (List Int) → List (List Int)
  | [] => [[at_]]
  | l :: r => if fitB hs low l = true then (l ++ [at_]) :: r else l :: placeF hs low at_ r
def lotsF (hs : List Int) (rows : List (Int × Int)) : List (List Int) := rows.foldl (fun acc r => placeF hs r.1 r.2 acc) []
theorem place_find (hs : List Int) (low at_ : Int) : ∀ lots : List (List Int), (∃ i0 ns, lots[i0]? = some ns ∧ fitB hs low ns = true ∧ (∀ j l, j < i0 → lots[j]? = some l → fitB hs low l = false) ∧ placeF hs low at_ lots = lots.set i0 (ns ++ [at_])) ∨ ((∀ l ∈ lots, fitB hs low l = false) ∧ placeF hs low at_ lots = lots ++ [[at_]])
  | [] => .inr ⟨fun _ h => (nomatch h), rfl⟩
  | l :: r => by
    by_cases hf : fitB hs low l = true
    · refine .inl ⟨0, l, rfl, hf, fun j _ h => absurd h (Nat.not_lt_zero j), ?_⟩
      unfold placeF
      rw [if_pos hf]
      rfl
    · have hf' : fitB hs low l = false := by simpa using hf
      rcases place_find hs low at_ r with ⟨i0, ns, h1, h2, h3, h4⟩ | ⟨h1, h2⟩
      · refine .inl ⟨i0 + 1, ns, by simpa using h1, h2, fun j l2 hj hl => ?_, ?_⟩
        · cases j with
          | zero => cases hl; exact hf'
          | succ j => exact h3 j l2 (by omega) (by simpa using hl)
        · unfold placeF
          rw [if_neg hf, h4]
          rfl
      · refine .inr ⟨fun l2 hl => ?_, ?_⟩
        · rcases List.mem_cons.mp hl with rfl | hl
          · exact hf'
          · exact h1 l2 hl
        · unfold placeF
          rw [if_neg hf, h2]
          rfl
theorem lotsF_more {hs : List Int} {rows : List (Int × Int)} {i : Nat} {r : Int × Int} (h : rows[i]? = some r) : lotsF hs (rows.take (i + 1)) = placeF hs r.1 r.2 (lotsF hs (rows.take i)) := by
  unfold lotsF
  rw [List.take_succ, h, List.foldl_append]
  rfl
/-- lots of positions below n -/
def LotOk (n : Nat) (lots : List (List Int)) : Prop := ∀ l ∈ lots, l ≠ [] ∧ ∀ j ∈ l, 0 ≤ j ∧ j < (n : Int)
theorem place_ok {hs : List Int} {low at_ : Int} {n : Nat} (ha : 0 ≤ at_ ∧ at_ < (n : Int)) : ∀ {lots : List (List Int)}, LotOk n lots → LotOk n (placeF hs low at_ lots)
  | [], _ => fun l hl => by
    rw [List.mem_singleton.mp hl]
    exact ⟨List.cons_ne_nil _ _, fun j hj => by rw [List.mem_singleton.mp hj]; exact ha⟩
  | l :: r, h => by
    unfold placeF
    have h0 := h l List.mem_cons_self
    have hr : LotOk n r := fun x hx => h x (List.mem_cons_of_mem _ hx)
    by_cases hf : fitB hs low l = true
    · rw [if_pos hf]
      intro x hx
      rcases List.mem_cons.mp hx with rfl | hx
      · refine ⟨by simp, fun j hj => ?_⟩
        rcases List.mem_append.mp hj with hj | hj
        · exact h0.2 j hj
        · rw [List.mem_singleton.mp hj]; exact ha
      · exact hr x hx
    · rw [if_neg hf]
      intro x hx
      rcases List.mem_cons.mp hx with rfl | hx
      · exact h0
      · exact place_ok ha hr x hx
theorem lots_ok {hs : List Int} {n : Nat} {rows : List (Int × Int)} (h : ∀ r ∈ rows, 0 ≤ r.2 ∧ r.2 < (n : Int)) : LotOk n (lotsF hs rows) := by
  unfold lotsF
  have key : ∀ (rows : List (Int × Int)) (acc : List (List Int)), (∀ r ∈ rows, 0 ≤ r.2 ∧ r.2 < (n : Int)) → LotOk n acc → LotOk n (rows.foldl (fun acc r => placeF hs r.1 r.2 acc) acc) := by
    intro rows
    induction rows with
    | nil => intro acc _ h2; exact h2
    | cons r t ih => intro acc h1 h2; exact ih _ (fun x hx => h1 x (List.mem_cons_of_mem _ hx)) (place_ok (h1 r List.mem_cons_self) h2)
  exact key rows [] h fun _ h => nomatch h
/-- how many lots and members there are, at most -/
def sizeF (lots : List (List Int)) : Nat := (lots.map List.length).sum
theorem place_size (hs : List Int) (low at_ : Int) : ∀ lots : List (List Int), sizeF (placeF hs low at_ lots) = sizeF lots + 1 ∧ (placeF hs low at_ lots).length ≤ lots.length + 1
  | [] => ⟨rfl, Nat.le_refl _⟩
  | l :: r => by
    unfold placeF
    obtain ⟨h1, h2⟩ := place_size hs low at_ r
    by_cases hf : fitB hs low l = true
    · rw [if_pos hf]
      unfold sizeF
      simp only [List.map_cons, List.sum_cons, List.length_append, List.length_cons, List.length_nil]
      exact ⟨by omega, by omega⟩
    · rw [if_neg hf]
      unfold sizeF at h1 ⊢
      simp only [List.map_cons, List.sum_cons, List.length_cons]
      exact ⟨by omega, by omega⟩
theorem lots_size (hs : List Int) (rows : List (Int × Int)) : sizeF (lotsF hs rows) = rows.length ∧ (lotsF hs rows).length ≤ rows.length := by
  unfold lotsF
  have key : ∀ (rows : List (Int × Int)) (acc : List (List Int)), sizeF (rows.foldl (fun acc r => placeF hs r.1 r.2 acc) acc) = sizeF acc + rows.length ∧ (rows.foldl (fun acc r => placeF hs r.1 r.2 acc) acc).length ≤ acc.length + rows.length := by
    intro rows
    induction rows with
    | nil => intro acc; exact ⟨by simp, by simp⟩
    | cons r t ih =>
      intro acc
      obtain ⟨h1, h2⟩ := ih (placeF hs r.1 r.2 acc)
      obtain ⟨h3, h4⟩ := place_size hs r.1 r.2 acc
      rw [List.foldl_cons, List.length_cons]
      exact ⟨by omega, by omega⟩
  have := key rows []
  simpa [sizeF] using this
theorem len_le_size {lots : List (List Int)} {l : List Int} (h : l ∈ lots) : l.length ≤ sizeF lots := by
  induction lots with
  | nil => exact nomatch h
  | cons x r ih =>
    unfold sizeF
    rw [List.map_cons, List.sum_cons]
    rcases List.mem_cons.mp h with rfl | h
    · omega
    · have := ih h
      unfold sizeF at this
      omega
end G
namespace G
open PySem PySem.Spec PyProof.Rows L2 StX
theorem sxm_olnil {W : Wd} {F : Hp} {L : Own} {Γ : Gam} {t : TS} {R : PoM} {α : Type} {rα : Rep α} {i : Nat} {p : Addr} {vs : List V} (hi : Γ[i]? = some (some (T (Ol.mk p vs ([] : List α))))) (h : vs = [] → SxM W F t L Γ R) : SxM W F t L Γ R := fun D σ H oF nF wF nd G O =>
  h (List.length_eq_zero_iff.mp (ol_at G hi).2.length) D σ H oF nF wF nd G O
theorem filter_first {α : Type} {p : α → Bool} : ∀ {l : List α} {i0 : Nat} {x : α}, l[i0]? = some x → p x = true → (∀ j y, j < i0 → l[j]? = some y → p y = false) → (l.filter p)[0]? = some x
  | [], _, _, h, _, _ => by simp at h
  | a :: r, 0, x, h, hp, _ => by
    have : a = x := by simpa using h
    subst this
    rw [List.filter_cons_of_pos hp]; rfl
  | a :: r, i0 + 1, x, h, hp, hn => by
    have h0 := hn 0 a (by omega) rfl
    rw [List.filter_cons_of_neg (by rw [h0]; decide)]
    exact filter_first (by simpa using h) hp fun j y hj hy => hn (j + 1) y (by omega) (by simpa using hy)
theorem zip_at {α β : Type} : ∀ {as : List α} {bs : List β} {i : Nat} {a : α} {b : β}, as[i]? = some a → bs[i]? = some b → (as.zip bs)[i]? = some (a, b)
  | _ :: _, _ :: _, 0, _, _, h1, h2 => by
    cases h1; cases h2; rfl
  | _ :: _, _ :: _, i + 1, _, _, h1, h2 => by
    have := zip_at (i := i) (by simpa using h1) (by simpa using h2)
    simpa using this
  | [], _, _, _, _, h1, _ => by simp at h1
  | _ :: _, [], _, _, _, _, h2 => by simp at h2
def rowsS (ss : List Stc) : List (Int × Int) := (enumF ss).map fun q => (q.2.lo, q.1)
theorem rowsS_ok {ss : List Stc} : ∀ r ∈ sortP (rowsS ss), 0 ≤ r.2 ∧ r.2 < (ss.length : Int) := fun r hr => by
  have hr := sortP_mem.mp hr
  unfold rowsS enumF at hr
  obtain ⟨q, hq, rfl⟩ := List.mem_map.mp hr
  obtain ⟨z, hz, rfl⟩ := List.mem_map.mp hq
  have := List.mem_zipIdx hz
  exact ⟨by show (0 : Int) ≤ (z.2 : Int); omega, by show (z.2 : Int) < _; omega⟩
theorem rowsS_len (ss : List Stc) : (sortP (rowsS ss)).length = ss.length := by
  rw [sortP_length]
  unfold rowsS
  rw [List.length_map, enumF_length]
end G
set_option Elab.async false
set_option linter.all false
set_option maxRecDepth 100000
set_option maxHeartbeats 2000000
namespace G
open PySem PySem.Spec PyProof.Rows L2 StX
/-! ### first fit: what it gives -/
/-- the rows of pairs, in their order -/
def rowsP (ps : List (Int × Int)) : List (Int × Int) := (enumF ps).map fun q => (q.2.1, q.1)
theorem rowsP_len (ps : List (Int × Int)) : (rowsP ps).length = ps.length := by unfold rowsP; rw [List.length_map, enumF_length]
theorem rowsP_at {ps : List (Int × Int)} {i : Nat} {q : Int × Int} (h : ps[i]? = some q) : (rowsP ps)[i]? = some (q.1, (i : Int)) := by
  unfold rowsP
  rw [List.getElem?_map, enumF_at h]
  rfl
theorem rowsP_mem {ps : List (Int × Int)} {r : Int × Int} (h : r ∈ rowsP ps) : ∃ (i : Nat) (q : Int × Int), ps[i]? = some q ∧ r = (q.1, (i : Int)) := by
  obtain ⟨i, hi⟩ := List.getElem?_of_mem h
  have hil := (List.getElem?_eq_some_iff.mp hi).1
  rw [rowsP_len] at hil
  have e := rowsP_at (List.getElem?_eq_getElem hil)
  rw [hi] at e
  exact ⟨i, ps[i], List.getElem?_eq_getElem hil, Option.some.inj e⟩
theorem rowsP_ok {ps : List (Int × Int)} : ∀ r ∈ sortP (rowsP ps), 0 ≤ r.2 ∧ r.2 < (ps.length : Int) := fun r hr => by
  rw [sortP_mem] at hr
  obtain ⟨i, q, hi, rfl⟩ := rowsP_mem hr
  have hil := (List.getElem?_eq_some_iff.mp hi).1
  exact ⟨by show (0 : Int) ≤ (i : Int); omega, by show (i : Int) < _; omega⟩
theorem rowsP_snd (ps : List (Int × Int)) : (rowsP ps).map (fun r => r.2) = (List.range ps.length).map fun (i : Nat) => (i : Int) := by
  apply List.ext_getElem?
  intro i
  rw [List.getElem?_map, List.getElem?_map]
  by_cases h : i < ps.length
  · rw [rowsP_at (List.getElem?_eq_getElem h), List.getElem?_range h]
    rfl
  · rw [List.getElem?_eq_none (by rw [rowsP_len]; omega), List.getElem?_eq_none (by rw [List.length_range]; omega)]
    rfl
theorem rowsS_eq (ps : List (Int × Int)) (f : Int × Int → Stc) (hf : ∀ p, (f p).lo = p.1) : rowsS (ps.map f) = rowsP ps := by
  apply List.ext_getElem?
  intro i
  unfold rowsS
  rw [List.getElem?_map]
  by_cases h : i < ps.length
  · rw [rowsP_at (List.getElem?_eq_getElem h), enumF_at (a := f ps[i]) (by rw [List.getElem?_map, List.getElem?_eq_getElem h]; rfl)]
    show some ((f ps[i]).lo, (i : Int)) = _
    rw [hf]
  · rw [List.getElem?_eq_none (by rw [enumF_length, List.length_map]; omega), List.getElem?_eq_none (by rw [rowsP_len]; omega)]
    rfl
/-! the positions -/
theorem place_perm (hs : List Int) (low a : Int) : ∀ lots : List (List Int), (placeF hs low a lots).flatten.Perm (lots.flatten ++ [a])
  | [] => by
    unfold placeF
    simp
  | l :: r => by
    unfold placeF
    by_cases hf : fitB hs low l = true
    · rw [if_pos hf, List.flatten_cons, List.flatten_cons, List.append_assoc, List.append_assoc]
      exact List.Perm.append_left l List.perm_append_comm
    · rw [if_neg hf, List.flatten_cons, List.flatten_cons, List.append_assoc]
      exact List.Perm.append_left l (place_perm hs low a r)
theorem fold_perm (hs : List Int) : ∀ (rows : List (Int × Int)) (acc : List (List Int)), (rows.foldl (fun acc r => placeF hs r.1 r.2 acc) acc).flatten.Perm (acc.flatten ++ rows.map fun r => r.2)
  | [], acc => by simp
  | r :: rs, acc => by
    rw [List.foldl_cons, List.map_cons]
    refine (fold_perm hs rs _).trans ?_
    refine (List.Perm.append_right _ (place_perm hs r.1 r.2 acc)).trans ?_
    rw [List.append_assoc]
    exact List.Perm.refl _
theorem lots_perm (hs : List Int) (rows : List (Int × Int)) : (lotsF hs rows).flatten.Perm (rows.map fun r => r.2) := by
  have := fold_perm hs rows []
  simpa [lotsF] using this
/-! within a lot -/
def hiF (ps : List (Int × Int)) (j : Int) : Int := (ps.map fun p => p.2).getD j.toNat 0
def loF (ps : List (Int × Int)) (j : Int) : Int := (ps.map fun p => p.1).getD j.toNat 0
theorem hiF_at {ps : List (Int × Int)} {i : Nat} {q : Int × Int} (h : ps[i]? = some q) : hiF ps i = q.2 := by
  unfold hiF
  rw [Int.toNat_natCast, List.getD_eq_getElem?_getD, List.getElem?_map, h]
  rfl
theorem loF_at {ps : List (Int × Int)} {i : Nat} {q : Int × Int} (h : ps[i]? = some q) : loF ps i = q.1 := by
  unfold loF
  rw [Int.toNat_natCast, List.getD_eq_getElem?_getD, List.getElem?_map, h]
  rfl
theorem lo_hi {ps : List (Int × Int)} (ho : ∀ p ∈ ps, p.1 ≤ p.2) (j : Int) : loF ps j ≤ hiF ps j := by
  unfold loF hiF
  rw [List.getD_eq_getElem?_getD, List.getD_eq_getElem?_getD, List.getElem?_map, List.getElem?_map]
  cases e : ps[j.toNat]? with
  | none => exact Int.le_refl _
  | some q => exact ho q (List.mem_of_getElem? e)
def ApL (ps : List (Int × Int)) (l : List Int) : Prop := l.Pairwise fun a b => hiF ps a < loF ps b
theorem fit_iff {ps : List (Int × Int)} {low : Int} {l : List Int} : fitB (ps.map fun p => p.2) low l = true ↔ ∃ ys m, l = ys ++ [m] ∧ hiF ps m < low := by
  unfold fitB
  constructor
  · intro h
    cases e : l.getLast? with
    | none => rw [e] at h; cases h
    | some m =>
      rw [e] at h
      obtain ⟨ys, hy⟩ := List.getLast?_eq_some_iff.mp e
      exact ⟨ys, m, hy, of_decide_eq_true h⟩
  · rintro ⟨ys, m, rfl, h⟩
    rw [List.getLast?_concat]
    exact decide_eq_true h
theorem place_ap {ps : List (Int × Int)} {low a : Int} (ho : ∀ p ∈ ps, p.1 ≤ p.2) (hl : low = loF ps a) : ∀ {lots : List (List Int)}, (∀ l ∈ lots, ApL ps l) → ∀ l ∈ placeF (ps.map fun p => p.2) low a lots, ApL ps l
  | [], _, l, hm => by
    unfold placeF at hm
    rw [List.mem_singleton.mp hm]
    exact List.pairwise_singleton _ _
  | l0 :: r, h, l, hm => by
    unfold placeF at hm
    by_cases hf : fitB (ps.map fun p => p.2) low l0 = true
    · rw [if_pos hf] at hm
      rcases List.mem_cons.mp hm with rfl | hm
      · have h0 := h l0 List.mem_cons_self
        obtain ⟨ys, m, rfl, hlt⟩ := fit_iff.mp hf
        refine List.pairwise_append.mpr ⟨h0, List.pairwise_singleton _ _, fun x hx b hb => ?_⟩
        rw [List.mem_singleton.mp hb, ← hl]
        rcases List.mem_append.mp hx with hx | hx
        · have h1 := (List.pairwise_append.mp h0).2.2 x hx m List.mem_cons_self
          have h2 := lo_hi ho m
          omega
        · rw [List.mem_singleton.mp hx]
          exact hlt
      · exact h l (List.mem_cons_of_mem _ hm)
    · rw [if_neg hf] at hm
      rcases List.mem_cons.mp hm with rfl | hm
      · exact h l List.mem_cons_self
      · exact place_ap ho hl (fun l hl => h l (List.mem_cons_of_mem _ hl)) l hm
theorem fold_ap {ps : List (Int × Int)} (ho : ∀ p ∈ ps, p.1 ≤ p.2) : ∀ (rows : List (Int × Int)) (acc : List (List Int)), (∀ r ∈ rows, r.1 = loF ps r.2) → (∀ l ∈ acc, ApL ps l) → ∀ l ∈ rows.foldl (fun acc r => placeF (ps.map fun p => p.2) r.1 r.2 acc) acc, ApL ps l
  | [], acc, _, h => h
  | r :: rs, acc, hr, h => by
    rw [List.foldl_cons]
    exact fold_ap ho rs _ (fun x hx => hr x (List.mem_cons_of_mem _ hx)) (place_ap ho (hr r List.mem_cons_self) h)
theorem rowsP_lo {ps : List (Int × Int)} : ∀ r ∈ rowsP ps, r.1 = loF ps r.2 := fun r hr => by
  obtain ⟨i, q, hi, rfl⟩ := rowsP_mem hr
  exact (loF_at hi).symm
/-! how many lots -/
def cPos (ps : List (Int × Int)) (x j : Int) : Bool := decide (loF ps j ≤ x) && decide (x ≤ hiF ps j)
theorem cPos_iff {ps : List (Int × Int)} {x j : Int} : cPos ps x j = true ↔ loF ps j ≤ x ∧ x ≤ hiF ps j := by unfold cPos; rw [Bool.and_eq_true, decide_eq_true_iff, decide_eq_true_iff]
theorem ap_one {ps : List (Int × Int)} {x : Int} : ∀ {l : List Int}, ApL ps l → l.countP (cPos ps x) ≤ 1
  | [], _ => by simp
  | a :: l, h => by
    obtain ⟨h1, h2⟩ := List.pairwise_cons.mp h
    by_cases hc : cPos ps x a = true
    · have h0 : l.countP (cPos ps x) = 0 := List.countP_eq_zero.mpr fun b hb hcb => by
        have := h1 b hb
        have c1 := cPos_iff.mp hc
        have c2 := cPos_iff.mp hcb
        omega
      rw [List.countP_cons_of_pos hc, h0]
      exact Nat.le_refl _
    · rw [List.countP_cons_of_neg hc]
      exact ap_one h2
theorem flat_le {p : Int → Bool} : ∀ {lots : List (List Int)}, (∀ l ∈ lots, l.countP p ≤ 1) → lots.flatten.countP p ≤ lots.length
  | [], _ => by simp
  | l :: r, h => by
    rw [List.flatten_cons, List.countP_append, List.length_cons]
    have h1 := h l List.mem_cons_self
    have h2 := flat_le fun x hx => h x (List.mem_cons_of_mem _ hx)
    omega
theorem flat_ge {p : Int → Bool} : ∀ {lots : List (List Int)}, (∀ l ∈ lots, ∃ m ∈ l, p m = true) → lots.length ≤ lots.flatten.countP p
  | [], _ => by simp
  | l :: r, h => by
    rw [List.flatten_cons, List.countP_append, List.length_cons]
    have h1 := List.countP_pos_iff.mpr (h l List.mem_cons_self)
    have h2 := flat_ge fun x hx => h x (List.mem_cons_of_mem _ hx)
    omega
theorem lots_deep {ps : List (Int × Int)} (ho : ∀ p ∈ ps, p.1 ≤ p.2) {rows : List (Int × Int)} (hr : ∀ r ∈ rows, r.1 = loF ps r.2) (hs : rows.Pairwise fun a b => a.1 ≤ b.1) (hok : ∀ i, ∀ l ∈ lotsF (ps.map fun p => p.2) (rows.take i), l ≠ []) :
    ∀ i, i ≤ rows.length → lotsF (ps.map fun p => p.2) (rows.take i) = [] ∨ ∃ x, (lotsF (ps.map fun p => p.2) (rows.take i)).length ≤ (lotsF (ps.map fun p => p.2) (rows.take i)).flatten.countP (cPos ps x) := by
  intro i
  induction i with
  | zero => exact fun _ => .inl rfl
  | succ i ih =>
    intro hi
    have hil : i < rows.length := by omega
    have hri : rows[i]? = some rows[i] := List.getElem?_eq_getElem hil
    have em := lotsF_more (hs := ps.map fun p => p.2) hri
    have ih' := ih (by omega)
    have hpm := place_perm (ps.map fun p => p.2) rows[i].1 rows[i].2 (lotsF (ps.map fun p => p.2) (rows.take i))
    rcases place_find (ps.map fun p => p.2) rows[i].1 rows[i].2 (lotsF (ps.map fun p => p.2) (rows.take i)) with ⟨i0, ns, f1, f2, f3, f4⟩ | ⟨f1, f2⟩
    · right
      rcases ih' with e | ⟨x, hx⟩
      · rw [e] at f1
        cases f1
      · refine ⟨x, ?_⟩
        rw [em, hpm.countP_eq, f4, List.length_set, List.countP_append]
        omega
    · right
      refine ⟨rows[i].1, ?_⟩
      rw [em, hpm.countP_eq, f2, List.length_append, List.countP_append]
      have e1 := hr rows[i] (List.getElem_mem _)
      have e2 := lo_hi ho rows[i].2
      have hc : cPos ps rows[i].1 rows[i].2 = true := cPos_iff.mpr ⟨by omega, by omega⟩
      have h1 : [rows[i].2].countP (cPos ps rows[i].1) = 1 := by rw [List.countP_cons_of_pos hc]; rfl
      have h2 := flat_ge (p := cPos ps rows[i].1) (lots := lotsF (ps.map fun p => p.2) (rows.take i)) fun l hl => by
        have hne := hok i l hl
        obtain ⟨ys, m, rfl⟩ : ∃ ys m, l = ys ++ [m] := ⟨l.dropLast, l.getLast hne, (List.dropLast_concat_getLast hne).symm⟩
        refine ⟨m, by simp, cPos_iff.mpr ⟨?_, ?_⟩⟩
        · have hm : m ∈ (lotsF (ps.map fun p => p.2) (rows.take i)).flatten := List.mem_flatten.mpr ⟨_, hl, by simp⟩
          rw [(lots_perm _ _).mem_iff] at hm
          obtain ⟨r, hr1, rfl⟩ := List.mem_map.mp hm
          rw [← hr r (List.mem_of_mem_take hr1)]
          have hrl := hs
          rw [← List.take_append_drop i rows] at hrl
          exact (List.pairwise_append.mp hrl).2.2 r hr1 _ (List.mem_of_getElem? (i := 0) (by rw [List.getElem?_drop, Nat.add_zero]; exact hri))
        · have hnf := f1 _ hl
          by_cases hlt : hiF ps m < rows[i].1
          · rw [fit_iff.mpr ⟨ys, m, rfl, hlt⟩] at hnf
            cases hnf
          · omega
      rw [h1]
      show _ + 1 ≤ _
      omega
theorem enum_count {ps : List (Int × Int)} {x : Int} : ((rowsP ps).map fun r => r.2).countP (cPos ps x) = ps.countP fun p => decide (p.1 ≤ x) && decide (x ≤ p.2) := by
  have e1 : ps.map (fun p => decide (p.1 ≤ x) && decide (x ≤ p.2)) = ((rowsP ps).map fun r => r.2).map (cPos ps x) := by
    apply List.ext_getElem?
    intro i
    rw [List.getElem?_map, List.getElem?_map, List.getElem?_map]
    by_cases h : i < ps.length
    · have hi : ps[i]? = some ps[i] := List.getElem?_eq_getElem h
      rw [rowsP_at hi, hi]
      show _ = some (cPos ps x (i : Int))
      unfold cPos
      rw [loF_at hi, hiF_at hi]
      rfl
    · have := rowsP_len ps
      rw [List.getElem?_eq_none (by omega : ps.length ≤ i), List.getElem?_eq_none (by omega : (rowsP ps).length ≤ i)]
      rfl
  have e2 : ∀ {α : Type} (p : α → Bool) (l : List α), l.countP p = (l.map p).countP id := fun p l => by rw [List.countP_map]; rfl
  rw [e2, ← e1, ← e2]
/-- as many lots as the greatest depth -/
theorem lots_count {ps : List (Int × Int)} (ho : ∀ p ∈ ps, p.1 ≤ p.2) : (∀ x, (ps.countP fun p => decide (p.1 ≤ x) && decide (x ≤ p.2)) ≤ (lotsF (ps.map fun p => p.2) (sortP (rowsP ps))).length) ∧
    (ps ≠ [] → ∃ x, (lotsF (ps.map fun p => p.2) (sortP (rowsP ps))).length ≤ ps.countP fun p => decide (p.1 ≤ x) && decide (x ≤ p.2)) := by
  have hpm := lots_perm (ps.map fun p => p.2) (sortP (rowsP ps))
  have hpm2 : ((sortP (rowsP ps)).map fun r => r.2).Perm ((rowsP ps).map fun r => r.2) := (sortP_perm _).map _
  have hr : ∀ r ∈ sortP (rowsP ps), r.1 = loF ps r.2 := fun r h => rowsP_lo r (sortP_mem.mp h)
  constructor
  · intro x
    rw [← enum_count, ← hpm2.countP_eq, ← hpm.countP_eq]
    exact flat_le fun l hl => ap_one (fold_ap ho _ [] hr (fun _ h => nomatch h) l hl)
  · intro hne
    have hd := lots_deep ho hr ((sortP_sorted _).imp fun {a b} h => by
      unfold lexLe at h
      simp at h
      omega) (fun i l hl => (lots_ok (n := ps.length) (fun r h => rowsP_ok r (List.mem_of_mem_take h)) l hl).1) (sortP (rowsP ps)).length (Nat.le_refl _)
    rw [List.take_length] at hd
    rcases hd with e | ⟨x, hx⟩
    · exfalso
      rw [e] at hpm
      have := hpm.length_eq
      rw [List.length_map, sortP_length, rowsP_len] at this
      exact hne (List.length_eq_zero_iff.mp this.symm)
    · refine ⟨x, ?_⟩
      rw [hpm.countP_eq, hpm2.countP_eq, enum_count] at hx
      exact hx
theorem lots_ap {ps : List (Int × Int)} (ho : ∀ p ∈ ps, p.1 ≤ p.2) : ∀ l ∈ lotsF (ps.map fun p => p.2) (sortP (rowsP ps)), ApL ps l :=
  fold_ap ho _ [] (fun r h => rowsP_lo r (sortP_mem.mp h)) fun _ h => nomatch h
theorem lots_nodup (ps : List (Int × Int)) : (lotsF (ps.map fun p => p.2) (sortP (rowsP ps))).flatten.Nodup := by
  rw [((lots_perm _ _).trans ((sortP_perm _).map _)).nodup_iff, rowsP_snd]
  refine List.Pairwise.map _ (fun a b h => ?_) List.nodup_range
  intro e
  exact h (by omega)
theorem take_split {α : Type} {l : List α} {i : Nat} {x : α} (h : l[i]? = some x) : l = l.take i ++ x :: l.drop (i + 1) := by
  have e := List.take_append_drop (i + 1) l
  rw [List.take_succ, h] at e
  rw [show l.take i ++ x :: l.drop (i + 1) = (l.take i ++ (some x).toList) ++ l.drop (i + 1) by simp]
  exact e.symm
theorem flat_split {lots : List (List Int)} {i : Nat} {l : List Int} (h : lots[i]? = some l) : lots.flatten = (lots.take i).flatten ++ (l ++ (lots.drop (i + 1)).flatten) := by
  have := congrArg List.flatten (take_split h)
  rw [List.flatten_append, List.flatten_cons] at this
  exact this
theorem flat_split2 {lots : List (List Int)} {i j : Nat} {l : List Int} {x : Int} (h : lots[i]? = some l) (g : l[j]? = some x) : lots.flatten = ((lots.take i).flatten ++ l.take j) ++ (x :: (l.drop (j + 1) ++ (lots.drop (i + 1)).flatten)) := by
  rw [flat_split h]
  exact (congrArg (fun q => (lots.take i).flatten ++ (q ++ (lots.drop (i + 1)).flatten)) (take_split g)).trans (by simp)
end G
set_option Elab.async false
set_option linter.all false
set_option maxRecDepth 100000
set_option maxHeartbeats 2000000
namespace G
open PySem PySem.Spec PyProof.Rows L2 StX
/-! ### texts: s[i], s[::-1], in a list of texts -/
def revS (z : Str) : Str := ⟨z.cps.toList.reverse.toArray⟩
def tRevS (te : TE) : TE := fun σ H Q => te σ H fun x H1 => ∃ z, x = .str z ∧ z.length ≤ sizeLine ∧ Q (.str (revS z)) H1
theorem rev_picked (z : Str) (u : Tok) : (slicePicked z none none (some (-1, u))).filterMap (z.cps[·]?) = z.cps.toList.reverse := by
  show (sliceRange ((z.length : Int) - 1) (-1) (-1)).filterMap (z.cps[·]?) = _
  rw [PySem.W.krv_sliceRange, PySem.W.krv_range, List.filterMap_reverse]
  exact congrArg List.reverse (PySem.W.krv_all z.cps)
section
variable {X : Cx}
theorem pe_revS {e : Expr} {te : TE} {k : Nat} {p1 p2 p3 pos : Pos} (he : L2.PE X e te) : L2.PE X (e.Subscript (Expr.Slice none none (some (Expr.UnaryOp UnaryOp.USub (Expr.Constant (Const.int 1) k p1) p2)) p3) pos) (tRevS te) := by
  refine ⟨fun pins s σ H Q I h => ?_⟩
  refine Subscript_ (thn (he.run pins s σ H _ I h) fun v s1 ⟨x, H1, I1, r1, q1⟩ => ?_)
  obtain ⟨z, ex, hz, q⟩ := q1
  subst ex
  obtain ⟨t, rfl⟩ := r1
  have hst : PO X (some (.UnaryOp .USub (.Constant (.int 1) k p1) p2)) (tPart (tUn (rU fun i => .int (-i)) (tC (.int 1)))) := po_some (pe_un un_neg pe_int)
  refine wpAny_Slice (thn (po_none.run pins s1 σ H1 (fun o H2 => o = none ∧ H2 = H1) I1 ⟨rfl, rfl⟩) fun vl s2 ⟨l, H2, I2, pl, el, e2⟩ => ?_)
  subst el e2
  refine thn (po_none.run pins s2 σ H2 (fun o H3 => o = none ∧ H3 = H2) I2 ⟨rfl, rfl⟩) fun vu s3 ⟨u, H3, I3, pu, eu, e3⟩ => ?_
  subst eu e3
  refine thn (hst.run pins s3 σ H3 (fun o H4 => o = some (-1) ∧ H4 = H3) I3 ⟨1, rfl, -1, rfl, rfl, rfl⟩) fun vs s4 ⟨o, H4, I4, ps, eo, e4⟩ => ?_
  subst eo e4
  have I5 : Inv X pins σ H4 { s4 with heap := s4.heap.push { cls := .type "slice", data := .fields #[vl, vu, vs] } } := I4.kept (t' := s4.toks) fun b ob q => Heap.get?_push_of_some _ q
  obtain ⟨l', rfl, hl'⟩ := IsPart.raw pl
  obtain ⟨u', rfl, hu'⟩ := IsPart.raw pu
  obtain ⟨w', rfl, hw'⟩ := IsPart.raw ps
  have e1 : l' = none := by cases l' with | none => rfl | some _ => cases hl'
  have e2 : u' = none := by cases u' with | none => rfl | some _ => cases hu'
  subst e1 e2
  obtain ⟨u1, rfl⟩ : ∃ u1, w' = some (-1, u1) := by
    cases w' with
    | none => cases hw'
    | some p => obtain ⟨a, b⟩ := p; cases hw'; exact ⟨b, rfl⟩
  refine tail_any (ops := [.ref s4.heap.objs.size, .str z t]) (typeIs_str _ _ _) (F.slot_str_getitem.lookup) ?_ (by with_unfolding_all rfl)
  refine wpAny_getItem_str_slice (l := none) (u := none) (st := some (-1, u1)) ⟨_, Heap.get?_push_size _ rfl, rfl, rfl⟩ rfl ?_
  have hm : sliceMade z t none none (some (-1, u1)) = .str (revS z) := by
    unfold sliceMade
    rw [rev_picked]
    rfl
  rw [hm]
  refine ⟨?_, .str (revS z), H4, I5.tok _, ⟨_, rfl⟩, q⟩
  show (revS z).cps.size ≤ _
  unfold revS
  rw [List.size_toArray, List.length_reverse, Array.length_toList]
  exact hz
end
section
variable {W : Wd} {Γ : Gam} {ta tb te : TE} {K : PySem.W.Frag}
theorem ev_revS {k : Str → Prop} (h : EvK W te Γ fun z : Str => z.length ≤ 100000 ∧ k (revS z)) : EvK W (tRevS te) Γ k := fun σ H Q G c => h σ H _ G fun v H1 z e1 d ⟨hl, q⟩ => by
  have d' : v = V.str z := d
  exact ⟨z, d', Nat.le_trans hl (by decide), c _ H1 (revS z) e1 rfl q⟩
theorem ev_ixS {k : Str → Prop} (h : EvK W ta Γ fun z : Str => EvK W tb Γ fun i : Int => z.length ≤ 100000 ∧ ∃ c, atI z.cps.toList i = some c ∧ k ⟨#[c]⟩) : EvK W (tOp rIxS ta tb) Γ k := by
  refine ev_two (h.imp fun z hz => hz.imp fun i ⟨hl, c, hc, q⟩ x y H Q o dx dy cc => ?_)
  have dx' : x = V.str z := dx
  have dy' : y = V.int i := dy
  exact ⟨z, i, c, dx', dy', Nat.le_trans hl (by decide), hc, cc _ H _ (Ext.refl o) rfl q⟩
theorem inV_strs (x : Str) (as : List Str) : inV (V.str x) (as.map V.str) = decide (x ∈ as) := by
  have h : inV (V.str x) (as.map V.str) = as.any fun a => a == x := by
    unfold inV
    rw [List.any_map]
    rfl
  rw [h, Bool.eq_iff_iff, List.any_eq_true, decide_eq_true_iff]
  exact ⟨fun ⟨a, ha, e⟩ => by rw [← eq_of_beq e]; exact ha, fun hx => ⟨x, hx, beq_self_eq_true x⟩⟩
theorem flat_strs (as : List Str) : (as.map V.str).all flatV = true := by
  rw [List.all_eq_true]
  intro v hv
  obtain ⟨a, _, rfl⟩ := List.mem_map.mp hv
  rfl
theorem ev_inS {k : Bool → Prop} (hK : W.B.K = K) (h : EvK W ta Γ fun x : Str => EvK W tb Γ fun as : List Str => k (decide (x ∈ as))) : EvK W (tOp (rIn K false) ta tb) Γ k := by
  subst hK
  refine ev_two (h.imp fun x hx => hx.imp fun as z v u H Q o dx ⟨p, vs, hu, hp, hd⟩ c => ?_)
  have dx' : v = V.str x := dx
  subst dx' hu
  have e := Dl.strs hd
  refine ⟨p, vs, rfl, .inl hp.sq, rfl, by rw [e]; exact flat_strs as, c _ H _ (Ext.refl o) ?_ z⟩
  show V.bl (inV (V.str x) vs) = _
  rw [e, inV_strs]
end
/-! ### words of letters -/
def wordL : Nat → Int → List Nat
  | 0, _ => []
  | k + 1, n => (97 + (n % 26).toNat) :: wordL k (n / 26)
def wordS (n : Int) (k : Nat) (b : Bool) : Str := ⟨(if b = true then (wordL k n).reverse else wordL k n).toArray⟩
theorem wordL_len : ∀ (k : Nat) (n : Int), (wordL k n).length = k
  | 0, _ => rfl
  | k + 1, n => by unfold wordL; rw [List.length_cons, wordL_len k]
theorem wordL_az : ∀ (k : Nat) (n : Int), ∀ c ∈ wordL k n, 97 ≤ c ∧ c ≤ 122
  | 0, _, c, h => nomatch h
  | k + 1, n, c, h => by
    unfold wordL at h
    rcases List.mem_cons.mp h with rfl | h
    · omega
    · exact wordL_az k _ c h
theorem wordS_list (n : Int) (k : Nat) (b : Bool) : (wordS n k b).cps.toList = if b = true then (wordL k n).reverse else wordL k n := rfl
theorem wordS_len (n : Int) (k : Nat) (b : Bool) : (wordS n k b).length = k := by
  show (if b = true then (wordL k n).reverse else wordL k n).toArray.size = k
  rw [List.size_toArray]
  split
  · rw [List.length_reverse, wordL_len]
  · rw [wordL_len]
theorem wordS_az {n : Int} {k : Nat} {b : Bool} : ∀ c ∈ (wordS n k b).cps.toList, 97 ≤ c ∧ c ≤ 122 := fun c h => by
  rw [wordS_list] at h
  split at h
  · exact wordL_az k n c (List.mem_reverse.mp h)
  · exact wordL_az k n c h
theorem wordS_inj {n m : Int} {k : Nat} {b : Bool} (hk : 1 ≤ k) (h : wordS n k b = wordS m k b) : n % 26 = m % 26 := by
  have e : wordL k n = wordL k m := by
    have e1 : (wordS n k b).cps.toList = (wordS m k b).cps.toList := by rw [h]
    rw [wordS_list, wordS_list] at e1
    split at e1
    · exact List.reverse_inj.mp e1
    · exact e1
  obtain ⟨j, rfl⟩ : ∃ j, k = j + 1 := ⟨k - 1, by omega⟩
  unfold wordL at e
  have := (List.cons.inj e).1
  omega
theorem nodup_sub {α : Type} [DecidableEq α] : ∀ {l B : List α}, l.Nodup → (∀ x ∈ l, x ∈ B) → l.length ≤ B.length
  | [], B, _, _ => Nat.zero_le _
  | x :: l, B, hn, hs => by
    obtain ⟨h1, h2⟩ := List.nodup_cons.mp hn
    have hx := hs x List.mem_cons_self
    have := nodup_sub (B := B.erase x) h2 fun y hy => (List.mem_erase_of_ne (fun e => h1 (by rw [← e]; exact hy))).mpr (hs y (List.mem_cons_of_mem _ hy))
    rw [List.length_erase_of_mem hx] at this
    have := List.length_pos_of_mem hx
    rw [List.length_cons]
    omega
def barS : List Str := [Str.ofString "rank", Str.ofString "trim", Str.ofString "weigh", Str.ofString "together"]
/-- twenty words one behind the other are not all taken -/
theorem words_free {n : Int} {k : Nat} {b : Bool} (hk : 1 ≤ k) {B : List Str} (hB : B.length < 20) (h : ∀ j : Nat, j < 20 → wordS (n + (j : Int)) k b ∈ B) : False := by
  have := nodup_sub (l := (List.range 20).map fun j : Nat => wordS (n + (j : Int)) k b) (B := B) (by
    rw [List.nodup_iff_pairwise_ne, List.pairwise_map]
    refine List.Pairwise.imp_of_mem (R := (· ≠ ·)) (fun {i j} hi hj hne e => ?_) List.nodup_range
    have q := wordS_inj hk e
    have := List.mem_range.mp hi
    have := List.mem_range.mp hj
    omega) (fun x hx => by
      obtain ⟨j, hj, rfl⟩ := List.mem_map.mp hx
      exact h j (List.mem_range.mp hj))
  rw [List.length_map, List.length_range] at this
  omega
/-- a name that a gauge may have -/
def GoodW (w : Str) : Prop := 1 ≤ w.length ∧ w.length ≤ 12 ∧ (∀ c ∈ w.cps.toList, 97 ≤ c ∧ c ≤ 122) ∧ w ∉ barS
end G
namespace G
open PySem PySem.Spec PyProof.Rows L2 StX
theorem abc_at {i : Int} (h0 : 0 ≤ i) (h1 : i < 26) : atI (Str.ofString "abcdefghijklmnopqrstuvwxyz").cps.toList i = some (97 + i.toNat) := by
  have key : ∀ j : Fin 26, atI (Str.ofString "abcdefghijklmnopqrstuvwxyz").cps.toList ((j.val : Nat) : Int) = some (97 + j.val) := by decide +kernel
  obtain ⟨n, rfl⟩ : ∃ n : Nat, i = n := ⟨i.toNat, by omega⟩
  rw [key ⟨n, by omega⟩, Int.toNat_natCast]
theorem abc_len : (Str.ofString "abcdefghijklmnopqrstuvwxyz").length = 26 := by decide +kernel
theorem snoc_list (z : Str) (c : Nat) : (z ++ (⟨#[c]⟩ : Str)).cps.toList = z.cps.toList ++ [c] := by
  show (z.cps ++ #[c]).toList = _
  rw [Array.toList_append]
theorem snoc_len (z : Str) (c : Nat) : (z ++ (⟨#[c]⟩ : Str)).length = z.length + 1 := by
  show (z.cps ++ #[c]).size = _
  rw [Array.size_append]
  rfl
theorem str_len (z : Str) : z.length = z.cps.toList.length := by
  show z.cps.size = _
  rw [Array.length_toList]
theorem wordS_of {z : Str} {n : Int} {k : Nat} (h : z.cps.toList = wordL k n) : (wordS n k false = z) ∧ wordS n k true = revS z := by
  constructor
  · unfold wordS
    rw [if_neg (by decide), ← h]
  · unfold wordS revS
    rw [if_pos rfl, ← h]
end G
set_option Elab.async false
set_option linter.all false
set_option maxRecDepth 100000
set_option maxHeartbeats 2000000
namespace G
open PySem PySem.Spec PyProof.Rows L2 StX
/-! ### super().m() of own objects -/
theorem boot_super : bootBuiltins (Str.ofString "super") = some (.type "super") := by first | decide +kernel | kernel_rfl | rfl
/-- what of the text such a call wants: the def at f, its code's record at cda, the cell of its class at cc, the class D -/
structure SupT (P : Program) (K : PySem.W.Frag) (f D cc cda : Addr) (slf : Str) : Prop where
  fn : ∃ oc od fd osl ar, K.lookup f = some ⟨oc, od, .func fd, osl⟩ ∧ (fd.params.posonlyargs ++ fd.params.args).head? = some ar ∧ ar.arg = slf
  code : ∃ ccl cdd vs ccs file tf, K.lookup cda = some ⟨ccl, cdd, .fields vs, ccs⟩ ∧ vs[2]? = some (.str file tf) ∧ ((P.main.file : Str) == file) = true
  cell : ∃ cl cld csl, K.lookup cc = some ⟨cl, cld, .cell (some (.ref D)), csl⟩
  cls : ∃ cdD, PySem.W.clsIn K D = some cdD
  any : PySem.W.nsIn K cStatics "thirdparty.any" = some none
  top : (P.main.scope.names.lookup ("super" : Str)).isSome = false
/-- .. and of the object's class C, the next m behind D at g -/
structure SupM (K : PySem.W.Frag) (C D : Addr) (m : Str) (g : Addr) : Prop where
  sub : PySem.W.mroIn K C (.ref D) = some true
  at_ : PySem.W.ks_superIn K C D m = some (some (.ref g))
  ty : PySem.W.typeIn K (.ref g) = some (.type "function")
  fi : PySem.W.fnIn K g = true
section
variable {X : Cx} {CX : CXT} {k : Nat} {pins : List (Addr × Obj)} {σ : L2.St} {H : Hp} {s : Shared} {Q : VK} {body : List Stmt} {p0 p1 apos pos : Pos} {m slf : Str} {a dx D C f g cc cda : Addr} {fs : List (Str × V)} {sp : Sp} {E : XK}
theorem at_super (I : Inv X pins σ H s) (T : SupT X.prog X.K f D cc cda slf) (M : SupM X.K C D m g)
    (hfu : X.env.func = some f) (hco : X.env.code = .ref cda) (hcl : X.env.cells.lookup ("__class__" : Str) = some cc)
    (hks : X.env.scope.names.lookup ("super" : Str) = some .globalImplicit) (hkc : X.env.scope.names.lookup ("__class__" : Str) = some .free) (hka : X.env.scope.names.lookup slf = some .local)
    (hms : X.mg "super" = none) (hmn : (m == ("__class__" : Str)) = false) (hN : X.N[0]? = some slf) (hσ : σ[0]? = some (some (.ref a))) (ha : H a = some (.ins C dx fs))
    (F : FnR X.prog X.w X.K X.mg X.base CX k g sp) (hr : Room k X.A) (hx : Passes CX X E) (hsp : sp [.ref a] H Q E)
    (he : eval (.Call (.Attribute (.Call (.Name "super" p0) [] [] p1) m apos) [] [] pos) X.env = (do
      let ov ← attributeBase (.Call (.Name "super" p0) [] [] p1) m X.env (eval (.Call (.Name "super" p0) [] [] p1) X.env)
      standAt apos.atName
      let (f, first) ← holding [ov] (getMethod ov m (pure false))
      callWith pos f first (backTo pos (starEach [] X.env)) []) := by rfl) :
    _root_.PySem.wpAt (model X.prog X.w) X.A (.func body X.env) (eval (.Call (.Attribute (.Call (.Name "super" p0) [] [] p1) m apos) [] [] pos) X.env) (EP X pins σ Q) X.xe s := by
  obtain ⟨oc, od, fd, osl, ar, lf, hp, hself⟩ := T.fn
  subst hself
  obtain ⟨ccl, cdd, vs, ccs, file, tf, lc, hvs, hfile⟩ := T.code
  obtain ⟨cl, cld, csl, lcell⟩ := T.cell
  obtain ⟨cdD, hD⟩ := T.cls
  obtain ⟨ox, J⟩ := inst_of I ha
  have XK := I.kIn
  obtain ⟨oD, hD1, hD2⟩ : ∃ oD, s.heap.get? D = some oD ∧ oD.data = .cls cdD := by
    unfold PySem.W.clsIn at hD
    split at hD
    · rename_i c d cd' sl ho
      cases hD
      exact ⟨_, XK _ _ ho, rfl⟩
    · cases hD
  refine ks_wpAt_MethodCall (he := he) ?_
  refine ks_wpAt_super_base (env := X.env) hks hkc hmn hfu (XK _ _ lf) rfl hp hco (XK _ _ lc) rfl hvs hfile T.top ?_
  obtain ⟨mb, hb1, hb2⟩ := I.mod.blt
  refine PySem.W.ks_loadName_global I.ok.kind hks (Calls.loadGlobal_builtin (by rw [I.ok.glob]; exact I.mod.glob.keeps I.bk) hms (by rw [I.ok.blt]; exact hb1.keeps I.bk) ((hb2 _ (by decide)).trans boot_super) ⟨rfl, ?_⟩)
  refine wpAny_loadName_free I.ok.kind hkc hcl ⟨_, XK _ _ lcell, rfl⟩ ?_
  obtain ⟨mm, hn, hloc⟩ := I.loc
  obtain ⟨u, ru, hlk⟩ := hloc 0 _ _ hN hσ (Or.inl hka)
  obtain rfl : u = Value.ref a := ru
  have hmv : mm ar.arg = some (.ref a) := by
    rcases hlk with ⟨_, h⟩ | ⟨h, _⟩
    · exact h
    · rcases h with h | h <;> (have h' : X.env.scope.names.lookup ar.arg = _ := h; rw [hka] at h'; cases h')
  refine wpAny_loadName_local I.ok.kind hka hn hmv ?_
  obtain ⟨hh, gg, d, t, os⟩ := s
  refine ks_wpAny_isType_cls hD1 hD2 ⟨rfl, ?_⟩
  refine ks_wpAny_call_super hD1 hD2 J.at_ J.cls (fun c e => ?_) (PySem.W.looks_mroIn XK M.sub) (fun h' e kk => ?_)
  · have := J.no
    unfold PySem.W.notCls at this
    rw [e] at this
    exact Bool.noConfusion this
  have I1 := ClX.pin_new (t' := t) (a := hh.objs.size) (o := PySem.W.ks_superObj D a C) I kk (Nat.le_refl _) e (fun v z => nomatch z)
  have XK1 := I1.kIn
  obtain ⟨of, hof, hofc⟩ : ∃ of, h'.get? g = some of ∧ of.cls = .type "function" := by
    have ht' : (X.K.lookup g).map (·.cls) = some (.type "function") := M.ty
    cases z : X.K.lookup g with
    | none => rw [z] at ht'; cases ht'
    | some of => rw [z] at ht'; exact ⟨of, XK1 _ _ z, Option.some.inj ht'⟩
  obtain ⟨cd, hcd, hal⟩ : ∃ cd, PySem.W.clsIn X.K C = some cd ∧ PySem.W.alongIn X.K m ((cd.mro.dropWhile (· != .ref D)).drop 1) = some (some (.ref g)) := by
    have hm := M.at_
    unfold PySem.W.ks_superIn at hm
    cases hc : PySem.W.clsIn X.K C with
    | none => rw [hc] at hm; cases hm
    | some cd => rw [hc] at hm; exact ⟨cd, rfl, hm⟩
  obtain ⟨ox1, J1⟩ := inst_of I1 ha
  refine ks_wpAny_getMethod_super e (PySem.W.looks_opaque XK1 T.any) (l₀ := cd.mro) ?_ rfl XK1 hal hof hofc (PySem.W.ks_ne XK1 J1 hcd) hmn ?_
  · exact fun A Q E s k q => wpAny_bind ((PySem.W.looks_clsIn XK1 hcd) A _ E s k (wpAny_pure q))
  have I2 := ClX.pin_new (t' := t + 1) (a := h'.objs.size) (o := PySem.W.methodObj (.ref g) (.ref a)) I1 (fun _ _ z => Heap.get?_push_of_some _ z) (Nat.le_refl _) (Heap.get?_push_size h' rfl) (fun v z => nomatch z)
  refine PySem.W.callWith_M0 (K := X.K) (self := .ref a) ⟨ClX.pin_at I2, I2.kIn⟩ M.fi ?_
  have z := wpAny_call (PySem.W.method_call (ClX.pin_at I2) (run_fnR (us := [.ref a]) (vs := [.ref a]) F hr hx I2 (.cons rfl .nil) hsp))
  exact thn z fun _ _ y => ClX.unpinE (ClX.unpinE y)
end
/-- e's reading where the place in the def is known -/
def PEA (X : Cx) (body : List Stmt) (e : Expr) (t : TE) : Prop := ∀ (pins : List (Addr × Obj)) (s : Shared) (σ : L2.St) (H : Hp) (Q : VK), Inv X pins σ H s → t σ H Q → _root_.PySem.wpAt (model X.prog X.w) X.A (.func body X.env) (eval e X.env) (EP X pins σ Q) X.xe s
/-- super().m(): S tells by the object's class which promise is meant -/
def tSup (S : Addr → Sp → Prop) (E : XK) : TE := fun σ H Q => ∃ a dx fs C sp, σ[0]? = some (some (V.ref a)) ∧ H a = some (.ins C dx fs) ∧ S C sp ∧ sp [.ref a] H Q E
section
variable {X : Cx} {CX : CXT} {k : Nat} {body : List Stmt} {p0 p1 apos pos : Pos} {m slf : Str} {D f cc cda : Addr} {S : Addr → Sp → Prop} {E : XK} {l r : Expr} {op : Operator} {q : R2} {tl tr : TE}
theorem pea_super (T : SupT X.prog X.K f D cc cda slf) (M : ∀ C sp, S C sp → ∃ g, SupM X.K C D m g ∧ FnR X.prog X.w X.K X.mg X.base CX k g sp)
    (hfu : X.env.func = some f) (hco : X.env.code = .ref cda) (hcl : X.env.cells.lookup ("__class__" : Str) = some cc)
    (hks : X.env.scope.names.lookup ("super" : Str) = some .globalImplicit) (hkc : X.env.scope.names.lookup ("__class__" : Str) = some .free) (hka : X.env.scope.names.lookup slf = some .local)
    (hms : X.mg "super" = none) (hmn : (m == ("__class__" : Str)) = false) (hN : X.N[0]? = some slf) (hr : Room k X.A) (hx : Passes CX X E)
    (he : eval (.Call (.Attribute (.Call (.Name "super" p0) [] [] p1) m apos) [] [] pos) X.env = (do
      let ov ← attributeBase (.Call (.Name "super" p0) [] [] p1) m X.env (eval (.Call (.Name "super" p0) [] [] p1) X.env)
      standAt apos.atName
      let (f, first) ← holding [ov] (getMethod ov m (pure false))
      callWith pos f first (backTo pos (starEach [] X.env)) []) := by rfl) :
    PEA X body (.Call (.Attribute (.Call (.Name "super" p0) [] [] p1) m apos) [] [] pos) (tSup S E) := by
  rintro pins s σ H Q I ⟨a, dx, fs, C, sp, hσ, ha, hS, hsp⟩
  obtain ⟨g, Mg, F⟩ := M C sp hS
  exact at_super I T Mg hfu hco hcl hks hkc hka hms hmn hN hσ ha F hr hx hsp he
theorem pea_op (hl : PEA X body l tl) (hr : L2.PE X r tr) (ho : OpR X (binaryOp op) q) : PEA X body (.BinOp l op r pos) (tOp q tl tr) := by
  intro pins s σ H Q I h
  refine ks_wpAt_BinOp (ks_wpAt_mono (hl pins s σ H _ I h) (fun v s1 ⟨x, H1, I1, rx, h1⟩ => ?_) fun _ _ z => z)
  refine thn (hr.run pins s1 σ H1 _ I1 h1) fun u s2 ⟨y, H2, I2, ry, h2⟩ => ?_
  exact ho pins s2 σ H2 _ _ _ _ _ I2 rx ry h2
end
/-- the context of such a def's body -/
def cxS (CX : CXT) (P : Program) (w : World) (K : PySem.W.Frag) (mg : Str → Option Value) (base : Heap) (N : List Str) (qual : Str) (scope : Scope) (f : Addr) (cd : Value) (cc : Addr) (A : Around) (outer : List Env) (s : Shared) (H : Hp) (E : XK) : Cx where
  prog := P
  w := w
  K := K
  mg := mg
  base := base
  A := A.deeper (PySem.W.ksEnv qual scope s.heap.objs.size f cd cc)
  N := N
  s_0 := s
  H_0 := H
  env := PySem.W.ksEnv qual scope s.heap.objs.size f cd cc
  outer := outer
  stack := PySem.W.ksEnv qual scope s.heap.objs.size f cd cc :: outer
  ex := []
  calm := true
  fn := fun x => !(x == ("__class__" : Str))
  pn := []
  xe := fun e s' => wpAny (model P w) (A.deeper (PySem.W.ksEnv qual scope s.heap.objs.size f cd cc)) (leaving (PySem.W.ksEnv qual scope s.heap.objs.size f cd cc) e) (fun _ s'' => CX outer H s E e s'') (fun e' s'' => CX outer H s E e' s'') s'
structure SupS (N P : List Str) (sc : Scope) : Prop where
  kind : sc.kind = .function
  co : sc.isCoroutine = false
  gen : sc.isGenerator = false
  nd : N.Nodup
  pre : N = P
  par : ∀ x ∈ P, sc.names.lookup x = some .local
  free : ∀ y, (sc.names.lookup y = some .cell ∨ sc.names.lookup y = some .free) → y = ("__class__" : Str)
  nocell : ∀ y ∈ sc.names, y.2 ≠ .cell
theorem zip_lookup {v : Value} : ∀ {P : List Str} {vs : List Value} {i : Nat} {x : Str}, P.Nodup → P[i]? = some x → vs[i]? = some v → (P.zip vs).reverse.lookup x = some v := by
  intro P vs i x nd h1 h2
  have key : ∀ {l : List (Str × Value)}, (l.map (·.1)).Nodup → (x, v) ∈ l → l.lookup x = some v := by
    intro l
    induction l with
    | nil => intro _ h; cases h
    | cons p l ih =>
      intro nd hm
      obtain ⟨n, u⟩ := p
      rw [List.map_cons, List.nodup_cons] at nd
      rcases List.mem_cons.mp hm with e | hm2
      · cases e
        simp [List.lookup]
      · have hne : (x == n) = false := by
          rw [beq_eq_false_iff_ne]
          intro e
          exact nd.1 (List.mem_map.mpr ⟨(x, v), hm2, e⟩)
        rw [List.lookup_cons, hne]
        exact ih nd.2 hm2
  refine key ?_ (List.mem_reverse.mpr (List.mem_of_getElem? (i := i) (by rw [List.getElem?_zip_eq_some]; exact ⟨h1, h2⟩)))
  rw [List.map_reverse]
  refine (List.reverse_perm _).nodup_iff.mpr ?_
  exact nd.sublist (by
    clear key h1 h2 nd
    induction P generalizing vs with
    | nil => simp
    | cons p P ih => cases vs with
      | nil => simp
      | cons u vs => simpa using ih)
theorem fn_super {CX : CXT} {P : Program} {w : World} {K : PySem.W.Frag} {mg : Str → Option Value} {base : Heap} {k : Nat} {f cc : Addr} {name qual : Str} {params : Arguments} {e : Expr} {pos : Pos} {scope : Scope} {dV kV doc pm cdv ct oc cl cv : Value} {an od cld : Option Addr}
    {osl csl : Array (Option Value)} {N ps : List Str} {sp : Sp} (lk : K.lookup f = some ⟨oc, od, .func (PySem.W.ksFn name qual params [.Return (some e) pos] scope dV kV doc pm an cdv ct cc), osl⟩) (hcd : PySem.W.codeIn K cdv qual = true) (S : SupS N ps scope)
    (lcell : K.lookup cc = some ⟨cl, cld, .cell (some cv), csl⟩) (len : ∀ vs H Q E, sp vs H Q E → vs.length = ps.length)
    (hbody : ∀ (A : Around) (outer : List Env) (s : Shared) (H : Hp) (vs : List V) (Q : VK) (E : XK), Room k (A.deeper (PySem.W.ksEnv qual scope s.heap.objs.size f cdv cc)) → sp vs H Q E →
      ∃ t, PEA (cxS CX P w K mg base N qual scope f cdv cc A outer s H E) [.Return (some e) pos] e t ∧ t (start N vs) H Q) :
    FnOk P w K mg base CX (k + 1) f (PySem.W.ksFn name qual params [.Return (some e) pos] scope dV kV doc pm an cdv ct cc) ps sp := by
  refine ⟨len, fun A outer s H args us vs Q E hr e0 hb r hsp => ?_⟩
  have hl := len _ _ _ _ hsp
  have KX : K.In s.heap := e0.mod.kin.keeps fun b o e => (e0.bs b o e).1
  have lim : s.heap.NoLimit := e0.mod.nolimit.keeps fun b o e => (e0.bs b o e).1
  refine ks_codeAny_call_defAt (body := [.Return (some e) pos]) (binds := ps.zip us) hr.depth (KX _ _ lk) rfl lim (PySem.W.codeRec_of KX hcd) rfl hb S.nocell (fun x hx => S.par x.1 (List.of_mem_zip hx).1) (fun h₀ hns hk => ?_) S.co S.gen S.kind
  obtain ⟨t, ht, hq⟩ := hbody A outer s H vs Q E (hr.deeper _) hsp
  have hbc : base.get? cc = some ⟨cl, cld, .cell (some cv), csl⟩ := e0.mod.kin _ _ lcell
  have noA : ∀ b : Addr, b ∉ (cxS CX P w K mg base N qual scope f cdv cc A outer s H E).ex := fun b z => absurd (show b ∈ ([] : List Addr) from z) (by simp)
  have lkc : ∀ x c, (cxS CX P w K mg base N qual scope f cdv cc A outer s H E).env.cells.lookup x = some c → x = ("__class__" : Str) ∧ c = cc := fun x c h => by
    have h' : ([(("__class__" : Str), cc)] : List (Str × Addr)).lookup x = some c := h
    rw [List.lookup_cons] at h'
    cases q : x == ("__class__" : Str) with
    | true => rw [q] at h'; cases h'; exact ⟨eq_of_beq q, rfl⟩
    | false => rw [q] at h'; cases h'
  have I : Inv (cxS CX P w K mg base N qual scope f cdv cc A outer s H E) [] (start N vs) H { s with heap := h₀, toks := s.toks + (ps.zip us).length } := by
    refine ⟨⟨e0.mod, S.kind, rfl, rfl, Nat.le_refl _, fun y z c h1 h2 => (lkc y c h1).1.trans (lkc z c h2).1.symm, fun y hy => ?_, fun y c hf h => ?_, fun _ => hr.hd, Around.frames_deeper e0.frames, .inr ⟨rfl, rfl⟩, fun b z => absurd z (noA b), e0.bs, e0.bsz, fun b _ _ => noA b, fun b z => absurd z (noA b), e0.funs, e0.frf⟩,
      rfl, e0.bare, Un.kept hk, ⟨_, hns, fun i y v h1 h2 h3 => ?_⟩, fun y c h => ?_, e0.hok.fresh (Nat.le_refl _), fun y c h => ?_, fun p hp => absurd (show p ∈ ([] : List (Addr × Obj)) from hp) (by simp), e0.hok.kept hk, ?_⟩
    · have hy' := S.free y hy
      subst hy'
      exact ⟨cc, by show ([(("__class__" : Str), cc)] : List (Str × Addr)).lookup _ = _; rw [List.lookup_cons, beq_self_eq_true]⟩
    · obtain ⟨rfl, _⟩ := lkc y c h
      exact absurd hf (by show ¬ (!(("__class__" : Str) == ("__class__" : Str))) = true; rw [beq_self_eq_true]; decide)
    · have hi : i < vs.length := by
        have := (List.getElem?_eq_some_iff.mp h1).1
        have e : (cxS CX P w K mg base N qual scope f cdv cc A outer s H E).N = ps := S.pre
        rw [e] at this
        omega
      have ha : vs[i]? = some v := by
        unfold L2.start at h2
        rw [List.getElem?_append_left (by simpa using hi), List.getElem?_map] at h2
        cases e : vs[i]? with
        | none => rw [e] at h2; cases h2
        | some a => rw [e] at h2; cases h2; rfl
      obtain ⟨u, hu, rv⟩ := r.get ha
      have hp : ps[i]? = some y := by rw [← S.pre]; exact h1
      exact ⟨u, rv, .inl ⟨S.par y (List.mem_of_getElem? hp), zip_lookup (by rw [← S.pre]; exact S.nd) hp hu⟩⟩
    · obtain ⟨rfl, rfl⟩ := lkc y c h
      exact ⟨some cv, _, hk _ _ (e0.bs _ _ hbc).1, rfl⟩
    · obtain ⟨rfl, rfl⟩ := lkc y c h
      exact (e0.bs _ _ hbc).2
    · unfold L2.start
      have e : N.length = ps.length := by rw [S.pre]
      show _ = N.length
      rw [List.length_append, List.length_map, List.length_replicate]
      omega
  refine ks_wpAt_execs_cons (ks_wpAt_Return_some (ks_wpAt_mono (ht [] _ _ H Q I hq) (fun u s' ⟨v, H', J, rv, q⟩ => ?_) fun _ _ z => z))
  exact ⟨v, H', J.os, J.bare, J.base, J.hok, rv, q⟩
end G
set_option Elab.async false
set_option linter.all false
set_option maxRecDepth 100000
set_option maxHeartbeats 2000000
namespace G
open PySem PySem.Spec PyProof.Rows L2 StX
/-! ### calls that go by the object's class -/
def tMethV (m : Str) (S : Addr → Sp → Prop) (E : L2.St → XK) (ta : TE) (t : TA) : TE := fun σ H Q => ta σ H fun x H1 => ∃ a dx fs C sp, x = .ref a ∧ H1 a = some (.ins C dx fs) ∧ fs.lookup m = none ∧ S C sp ∧ t σ H1 fun vs H2 => sp (x :: vs) H2 Q (E σ)
def tPropV (S : Addr → Sp → Prop) (te : TE) : TE := fun σ H Q => te σ H fun x H1 => ∃ a dx fs C sp, x = .ref a ∧ H1 a = some (.ins C dx fs) ∧ S C sp ∧ sp [.ref a] H1 Q E0
section
variable {X : Cx} {CX : CXT} {k : Nat} {m : Str} {S : Addr → Sp → Prop} {E : L2.St → XK} {o e : Expr} {es : List Expr} {apos pos : Pos} {to te : TE} {t : TA}
theorem pe_methV {pl : Sem Bool} (ho : L2.PE X o to) (M : ∀ C sp, S C sp → L2.Cls X.K C ∧ ∃ f, Meth X.K C m f ∧ FnR X.prog X.w X.K X.mg X.base CX k f sp) (hr : Room k X.A) (hx : ∀ σ, PassesAt CX X σ (E σ)) (ha : PA X (e :: es) t)
    (he : starEach (e :: es) X.env = (false, eval e X.env) :: starEach es X.env := by rfl) (hpl : (backTo pos (starEach es X.env)).any (·.1) = false := by rfl)
    (hc : eval (.Call (.Attribute o m apos) (e :: es) [] pos) X.env = (do
      let ov ← eval o X.env
      standAt apos.atName
      let (f, first) ← holding [ov] (getMethod ov m pl)
      callWith pos f first (backTo pos (starEach (e :: es) X.env)) (backToKw pos (keywordEach [] X.env))) := by rfl) :
    L2.PE X (.Call (.Attribute o m apos) (e :: es) [] pos) (tMethV m S E to t) := by
  refine ⟨fun pins s σ H Q I h => ?_⟩
  refine PySem.W.methodCall_KW (thn (ho.run pins s σ H _ I h) fun ov s1 ⟨x, H1, I1, rx, a, dx, fs, C, sp, ex, ea, hl, hS, q⟩ => ?_) hc
  subst ex
  cases (show ov = Value.ref a from rx)
  obtain ⟨c, f, hm, F⟩ := M C sp hS
  refine getmeth_ok I1 ea c hm hl ?_
  show wpAny _ _ (callWith pos (Value.ref f) [Value.ref a] (backTo pos (starEach (e :: es) X.env)) []) _ _ _
  exact PySem.W.callWith_K (h₀ := X.base) I1.ok.mod.kin hm.kp (thn (ha.run pos pins s1 σ H1 _ I1 q) fun us s2 ⟨vs, H2, I2, r, q2⟩ => ⟨I2.kIn, run_fnRS (vs := .ref a :: vs) F hr (hx σ) I2 (.cons (show L2.RelV (.ref a) (.ref a) from rfl) r) q2⟩) he hpl
theorem pe_methV0 {pl : Sem Bool} (ho : L2.PE X o to) (M : ∀ C sp, S C sp → L2.Cls X.K C ∧ ∃ f, Meth X.K C m f ∧ FnR X.prog X.w X.K X.mg X.base CX k f sp) (hr : Room k X.A) (hx : ∀ σ, PassesAt CX X σ (E σ))
    (hc : eval (.Call (.Attribute o m apos) [] [] pos) X.env = (do
      let ov ← eval o X.env
      standAt apos.atName
      let (f, first) ← holding [ov] (getMethod ov m pl)
      callWith pos f first (backTo pos (starEach [] X.env)) (backToKw pos (keywordEach [] X.env))) := by rfl) :
    L2.PE X (.Call (.Attribute o m apos) [] [] pos) (tMethV m S E to tNil) := by
  refine ⟨fun pins s σ H Q I h => ?_⟩
  refine PySem.W.methodCall_KW (thn (ho.run pins s σ H _ I h) fun ov s1 ⟨x, H1, I1, rx, a, dx, fs, C, sp, ex, ea, hl, hS, q⟩ => ?_) hc
  subst ex
  cases (show ov = Value.ref a from rx)
  obtain ⟨c, f, hm, F⟩ := M C sp hS
  refine getmeth_ok I1 ea c hm hl ?_
  show wpAny _ _ (callWith pos (Value.ref f) [Value.ref a] (backTo pos (starEach [] X.env)) []) _ _ _
  exact PySem.W.callWith_K0 I1.kIn hm.kp (run_fnRS (us := [.ref a]) (vs := [.ref a]) F hr (hx σ) I1 (.cons (show L2.RelV (.ref a) (.ref a) from rfl) .nil) q)
theorem pe_propV (he : L2.PE X e te) (M : ∀ C sp, S C sp → L2.Cls X.K C ∧ ∃ p g, PropOf X.K C m p g ∧ FnR X.prog X.w X.K X.mg X.base CX k g sp) (hr : Room (k + 1) X.A) (hx : ∀ {pins σ H s e s'}, Inv X pins σ H s → CX X.stack H s E0 e s' → False)
    (hab : attributeBase e m X.env (eval e X.env) = eval e X.env := by rfl) : L2.PE X (.Attribute e m pos) (tPropV S te) := by
  refine ⟨fun pins s σ H Q I h => ?_⟩
  refine attr_of hab (thn (he.run pins s σ H _ I h) fun u s1 ⟨x, H1, I1, rx, a, dx, fs, C, sp, ex, ea, hS, q⟩ => ?_)
  subst ex
  obtain rfl : u = Value.ref a := rx
  obtain ⟨c, p, g, hp, F⟩ := M C sp hS
  exact getpropZ_ok I1 ea c hp F hr hx q
end
/-! ### gauges -/
inductive GK where
  | pl | co | la | lc
  deriving DecidableEq
def GK.cn : GK → Cn
  | .pl => .Gauge
  | .co => .CoarseGauge
  | .la => .LateGauge
  | .lc => .LateCoarseGauge
def GK.coarse : GK → Bool
  | .co => true
  | .lc => true
  | _ => false
def GK.late : GK → Bool
  | .la => true
  | .lc => true
  | _ => false
structure Gau where
  k : GK
  nm : Str
  rd : Int
  st : Int
  lt : Int
  pc : Int
  deriving DecidableEq
/-- the fields, in the order in which they are set -/
def gauF (g : Gau) : List (Str × V) := [(("name" : Str), V.str g.nm), ("radius", V.int g.rd)] ++ (if g.k.late = true then [(("late" : Str), V.int g.lt), ("pace", V.int g.pc)] else []) ++ (if g.k.coarse = true then [(("step" : Str), V.int g.st)] else [])
instance : Rep Gau :=
  ⟨fun W H v g => ∃ a dx, v = .ref a ∧ ¬ W.mu a ∧ H a = some (.ins (W.B.cl g.k.cn) dx (gauF g)),
   fun e ⟨a, dx, hv, m, h⟩ => ⟨a, dx, hv, m, e _ _ m h⟩,
   fun D n ⟨a, dx, hv, m, h⟩ => ⟨a, dx, hv, mu_grow n m h, h⟩,
   fun D ⟨a, dx, hv, m, h⟩ => ⟨a, dx, hv, fun z => m (.inl z), h⟩⟩
/-- slacks as the document tells them -/
def sbF (g : Gau) : Int := g.rd + (if g.k.late = true then g.lt * g.pc else 0)
def saF (g : Gau) : Int := g.rd + (if g.k.coarse = true then g.st - 1 else 0) + (if g.k.late = true then g.lt * g.pc else 0)
theorem nk1 : (("radius" : Str) == ("name" : Str)) = false := by decide +kernel
theorem nk2 : (("late" : Str) == ("name" : Str)) = false := by decide +kernel
theorem nk3 : (("late" : Str) == ("radius" : Str)) = false := by decide +kernel
theorem nk4 : (("pace" : Str) == ("name" : Str)) = false := by decide +kernel
theorem nk5 : (("pace" : Str) == ("radius" : Str)) = false := by decide +kernel
theorem nk6 : (("pace" : Str) == ("late" : Str)) = false := by decide +kernel
theorem nk7 : (("step" : Str) == ("name" : Str)) = false := by decide +kernel
theorem nk8 : (("step" : Str) == ("radius" : Str)) = false := by decide +kernel
theorem nk9 : (("step" : Str) == ("late" : Str)) = false := by decide +kernel
theorem nk10 : (("step" : Str) == ("pace" : Str)) = false := by decide +kernel
theorem gau_name (g : Gau) : (gauF g).lookup ("name" : Str) = some (.str g.nm) := by simp [gauF, List.lookup]
theorem gau_radius (g : Gau) : (gauF g).lookup ("radius" : Str) = some (.int g.rd) := by simp [gauF, List.lookup, nk1]
theorem gau_late {g : Gau} (h : g.k.late = true) : (gauF g).lookup ("late" : Str) = some (.int g.lt) := by simp [gauF, List.lookup, h, nk2, nk3]
theorem gau_pace {g : Gau} (h : g.k.late = true) : (gauF g).lookup ("pace" : Str) = some (.int g.pc) := by simp [gauF, List.lookup, h, nk4, nk5, nk6]
theorem gau_step {g : Gau} (h : g.k.coarse = true) : (gauF g).lookup ("step" : Str) = some (.int g.st) := by
  obtain ⟨k, nm, rd, st, lt, pc⟩ := g
  cases k with
  | pl => cases h
  | la => cases h
  | co => simp [gauF, List.lookup, GK.late, GK.coarse, nk7, nk8]
  | lc => simp [gauF, List.lookup, GK.late, GK.coarse, nk7, nk8, nk9, nk10]
/-- what the text says of the four classes -/
structure GauT (B : Bs) : Prop where
  cl : ∀ k : GK, L2.Cls B.K (B.cl k.cn)
  nname : ∀ k : GK, NoAttr B.K (B.cl k.cn) "name"
  nradius : ∀ k : GK, NoAttr B.K (B.cl k.cn) "radius"
  nstep : ∀ k : GK, NoAttr B.K (B.cl k.cn) "step"
  nlate : ∀ k : GK, NoAttr B.K (B.cl k.cn) "late"
  npace : ∀ k : GK, NoAttr B.K (B.cl k.cn) "pace"
section
variable {W : Wd} {Γ : Gam} {te to : TE} {ta : TA} {K : PySem.W.Frag}
theorem ev_gname {k : Str → Prop} (hK : W.B.K = K) (hG : GauT W.B) (h : EvK W te Γ fun g : Gau => k g.nm) : EvK W (tFld K te "name") Γ k := by
  subst hK
  refine fun σ H Q E c => h σ H _ E fun v H1 g e1 ⟨a, dx, hv, m, hH⟩ z => ?_
  exact ⟨a, _, dx, _, _, hv, hH, hG.cl _, hG.nname _, gau_name _, c _ H1 g.nm e1 rfl z⟩
theorem ev_radius {k : Int → Prop} (hK : W.B.K = K) (hG : GauT W.B) (h : EvK W te Γ fun g : Gau => k g.rd) : EvK W (tFld K te "radius") Γ k := by
  subst hK
  refine fun σ H Q E c => h σ H _ E fun v H1 g e1 ⟨a, dx, hv, m, hH⟩ z => ?_
  exact ⟨a, _, dx, _, _, hv, hH, hG.cl _, hG.nradius _, gau_radius _, c _ H1 g.rd e1 rfl z⟩
theorem ev_step {k : Int → Prop} (hK : W.B.K = K) (hG : GauT W.B) (h : EvK W te Γ fun g : Gau => g.k.coarse = true ∧ k g.st) : EvK W (tFld K te "step") Γ k := by
  subst hK
  refine fun σ H Q E c => h σ H _ E fun v H1 g e1 ⟨a, dx, hv, m, hH⟩ ⟨hc, z⟩ => ?_
  exact ⟨a, _, dx, _, _, hv, hH, hG.cl _, hG.nstep _, gau_step hc, c _ H1 g.st e1 rfl z⟩
theorem ev_late {k : Int → Prop} (hK : W.B.K = K) (hG : GauT W.B) (h : EvK W te Γ fun g : Gau => g.k.late = true ∧ k g.lt) : EvK W (tFld K te "late") Γ k := by
  subst hK
  refine fun σ H Q E c => h σ H _ E fun v H1 g e1 ⟨a, dx, hv, m, hH⟩ ⟨hc, z⟩ => ?_
  exact ⟨a, _, dx, _, _, hv, hH, hG.cl _, hG.nlate _, gau_late hc, c _ H1 g.lt e1 rfl z⟩
theorem ev_pace {k : Int → Prop} (hK : W.B.K = K) (hG : GauT W.B) (h : EvK W te Γ fun g : Gau => g.k.late = true ∧ k g.pc) : EvK W (tFld K te "pace") Γ k := by
  subst hK
  refine fun σ H Q E c => h σ H _ E fun v H1 g e1 ⟨a, dx, hv, m, hH⟩ ⟨hc, z⟩ => ?_
  exact ⟨a, _, dx, _, _, hv, hH, hG.cl _, hG.npace _, gau_pace hc, c _ H1 g.pc e1 rfl z⟩
/-- o.m(..), o a gauge: Pk tells the promise of its kind -/
theorem ev_methV {α : Type} {rα : Rep α} {B : Bs} {m : Str} {S : Addr → Sp → Prop} {E : L2.St → XK} {x : Xn → Prop} {k : α → Prop} (Pk : GK → PT) (hB : W.B = B) (hx : HX W Γ E x) (hm : ∀ g : Gau, (gauF g).lookup m = none) (hS : ∀ kd, S (B.cl kd.cn) (spG B (Pk kd)))
    (h : EvK W to Γ fun g : Gau => EvA W ta Γ fun ts => Pk g.k (fun t => ∃ a : α, t = T a ∧ k a) x (T g :: ts)) : EvK W (tMethV m S E to ta) Γ k := by
  subst hB
  refine fun σ H Q G c => h σ H _ G fun v H1 g e1 d z => ?_
  obtain ⟨p, dp, hv, hmu, hH⟩ := d
  refine ⟨p, dp, _, _, _, hv, hH, hm g, hS g.k, ?_⟩
  refine z σ H1 _ (G.ext e1) fun vs H2 ts e2 d2 z2 => ?_
  exact ⟨W, _, _, x, rfl, e2.ok, .cons (t := T g) (Rep.mono (a := g) e2.keep ⟨p, dp, hv, hmu, hH⟩) d2, z2, fun v H3 t e3 dt ⟨a, ea, q⟩ => by
    subst ea
    exact c v H3 a ((e1.trans e2).trans e3) dt q, hx σ H2 ((G.ext e1).ext e2)⟩
theorem ev_propV {α : Type} {rα : Rep α} {B : Bs} {S : Addr → Sp → Prop} {k : α → Prop} (Pk : GK → PT) (hB : W.B = B) (hS : ∀ kd, S (B.cl kd.cn) (spG B (Pk kd)))
    (h : EvK W to Γ fun g : Gau => Pk g.k (fun t => ∃ a : α, t = T a ∧ k a) (fun _ => False) [T g]) : EvK W (tPropV S to) Γ k := by
  subst hB
  refine fun σ H Q G c => h σ H _ G fun v H1 g e1 d z => ?_
  obtain ⟨p, dp, hv, hmu, hH⟩ := d
  refine ⟨p, dp, _, _, _, hv, hH, hS g.k, ?_⟩
  exact ⟨W, _, _, _, rfl, e1.ok, .cons (t := T g) ⟨p, dp, rfl, hmu, hH⟩ .nil, z, fun v H3 t e3 dt ⟨a, ea, q⟩ => by
    subst ea
    exact c v H3 a (e1.trans e3) dt q, fun n d2 H2 _ _ z => z.elim⟩
/-- super().m() of a gauge that stands in slot 0: Pk tells the promise of the next one for its kind -/
theorem ev_super {α : Type} {rα : Rep α} {B : Bs} {S : Addr → Sp → Prop} {E : XK} {g : Gau} {k : α → Prop} (Pk : GK → PT) (hB : W.B = B) (hg : Γ[0]? = some (some (T g))) (hS : S (B.cl g.k.cn) (spG B (Pk g.k)))
    (h : Pk g.k (fun t => ∃ a : α, t = T a ∧ k a) (fun _ => False) [T g]) : EvK W (tSup S E) Γ k := by
  subst hB
  refine fun σ H Q G c => ?_
  obtain ⟨v, h1, d⟩ := G.at_ 0 _ hg
  obtain ⟨p, dp, hv, hmu, hH⟩ := d
  subst hv
  refine ⟨p, dp, _, _, _, h1, hH, hS, ?_⟩
  exact ⟨W, _, _, _, rfl, G.ok, .cons (t := T g) ⟨p, dp, rfl, hmu, hH⟩ .nil, h, fun v H3 t e3 dt ⟨a, ea, q⟩ => by
    subst ea
    exact c v H3 a e3 dt q, fun n d2 H2 _ _ z => z.elim⟩
end
end G
set_option Elab.async false
set_option linter.all false
set_option maxRecDepth 100000
set_option maxHeartbeats 2000000
namespace G
open PySem PySem.Spec PyProof.Rows L2 StX
/-! ### constants of the module and of a class, signs of a text -/
def rInSign : R2 := fun x y H Q => ∃ (c : Nat) (z : Str), x = .str ⟨#[c]⟩ ∧ y = .str z ∧ Q (.bl (decide (c ∈ z.cps.toList))) H
section
variable {W : Wd} {Γ : Gam} {te tb tl : TE} {tt : TT} {g : TG} {K : PySem.W.Frag}
theorem ev_inSign {k : Bool → Prop} (h : EvK W te Γ fun x : Str => ∃ c, x = ⟨#[c]⟩ ∧ EvK W tb Γ fun z : Str => k (decide (c ∈ z.cps.toList))) : EvK W (tOp rInSign te tb) Γ k := by
  refine fun σ H Q G cc => h σ H _ G fun v H1 x e1 d ⟨c, ex, h2⟩ => h2 σ H1 _ (G.ext e1) fun u H2 z e2 d2 q => ?_
  have d' : v = V.str x := d
  have d2' : u = V.str z := d2
  exact ⟨c, z, by rw [d', ex], d2', cc _ H2 _ (e1.trans e2) rfl q⟩
/-- x in a constant tuple of texts -/
theorem ev_inCst {k : Bool → Prop} {C : Addr} {as : List Str} (hC : ∀ H, SqT K H C (as.map V.str)) (h : EvK W te Γ fun x : Str => k (decide (x ∈ as))) : EvK W (tOp (rIn K false) te (tC (.ref C))) Γ k := by
  refine fun σ H Q G c => h σ H _ G fun v H1 x e1 d z => ?_
  have d' : v = V.str x := d
  subst d'
  refine ⟨C, as.map V.str, rfl, .inr (hC H1), rfl, flat_strs as, c _ H1 _ e1 ?_ z⟩
  show V.bl (inV (V.str x) (as.map V.str)) = _
  rw [inV_strs]
/-- C.f, a constant number -/
theorem ev_cvalI {k : Int → Prop} {C : Addr} {mc u : Value} {f : Str} {n : Int} (r : ClX.CRead K C mc) (c : ClX.CVal K C mc f (.int n) u) (h : k n) : EvK W (ClX.tCVal K (tC (.ref C)) f) Γ k := fun σ H Q G cc =>
  ⟨C, mc, _, u, rfl, r, c, cc _ H n (Ext.refl G.ok) rfl h⟩
/-- [te for g in a text if tt] -/
theorem evF_lcS {β : Type} {rβ : Rep β} {vs : List Nat} {k : List β → Prop}
    (h : EvK W tl Γ fun z : Str => z.length ≤ 100000 ∧ ∃ I : Nat → List β → Prop, I 0 [] ∧ (∀ W', Sub W W' → ∀ (i c : Nat) (bs : List β), z.cps.toList[i]? = some c → I i bs → LcTurn W' g tt te vs Γ (⟨#[c]⟩ : Str) (I (i + 1) bs) fun y : β => I (i + 1) (bs ++ [y])) ∧ ∀ bs, I z.length bs → k bs) :
    EvF W (tLc (iStr tl) g tt te vs) Γ k := by
  refine fun σ H Q E c => h σ H _ E fun v H1 z e1 hv ⟨hl, I, h0, hs, hf⟩ => ⟨z, hv, fun D n => ?_⟩
  have G1 := E.ext e1
  have eD : Ext W H1 (upd H1 D (.lst [])) := Ext.new e1.ok n
  refine turns (J := Its z) (n := z.length) (fun i H' => Ext W H1 H' ∧ ∃ acc bs, H' D = some (.lst acc) ∧ Dl (den (W.toWc.plus D) H') acc bs ∧ acc.length ≤ i ∧ I i bs) ⟨eD, [], [], upd_same, .nil, Nat.le_refl _, h0⟩ (fun i H' hi _ => hi) (fun H' _ => Nat.le_refl _) ?_ ?_
  · rintro i H' x H'' hi ⟨e, acc, bs, hD, hb, ha, q⟩ ⟨rfl, cc, hc, rfl⟩
    have hc' : z.cps.toList[i]? = some cc := by rw [Array.getElem?_toList]; exact hc
    exact lc_turn (I := I (i + 1)) (P := fun H' => Ext W H1 H' ∧ ∃ acc bs, H' D = some (.lst acc) ∧ Dl (den (W.toWc.plus D) H') acc bs ∧ acc.length ≤ i + 1 ∧ I (i + 1) bs) (hs _ (Sub.plus (n := n) (o1 := e1.ok) (w1 := G1.wish)) i cc bs hc' q) G1 e hD hb rfl (by omega) fun H2 acc2 bs2 e2 hD2 hb2 hl2 q2 => ⟨e2, acc2, bs2, hD2, hb2, by omega, q2⟩
  · rintro H' ⟨e, acc, bs, hD, hb, ha, q⟩
    exact c D H' acc bs (fresh_back e1.ok e1 n) (e1.trans e) hD hb (hf bs q)
/-- .. of each sign f, none left out -/
theorem ev_lcSF {β : Type} {rβ : Rep β} {vs : List Nat} {k : List β → Prop} (f : Nat → β)
    (h : EvK W tl Γ fun z : Str => z.length ≤ 100000 ∧ (∀ W', Sub W W' → ∀ c ∈ z.cps.toList, LcTurn W' g tt te vs Γ (⟨#[c]⟩ : Str) False fun y : β => y = f c) ∧ k (z.cps.toList.map f)) :
    EvK W (tLc (iStr tl) g tt te vs) Γ k := (evF_lcS (h.imp fun z ⟨hl, hs, q⟩ => ⟨hl, fun i bs => bs = (z.cps.toList.take i).map f, by simp, fun W' s i c bs hc e => by
  have ht : z.cps.toList.take (i + 1) = z.cps.toList.take i ++ [c] := by
    rw [List.take_succ, hc]; rfl
  obtain ⟨js, h1, h2⟩ := hs W' s c (List.mem_of_getElem? hc)
  refine ⟨js, h1, fun σ H v Q E d cc => h2 σ H v Q E d fun σ' Γ' G m q2 => cc σ' Γ' G m ?_⟩
  intro σ2 H2 Q2 E2 c2
  refine q2 σ2 H2 Q2 E2 fun H3 b e3 ⟨hy, hn⟩ => c2 H3 b e3 ⟨fun hb => (hy hb).imp fun y hyf => ?_, fun hb => (hn hb).elim⟩
  have e' : bs = (z.cps.toList.take i).map f := e
  show bs ++ [y] = (z.cps.toList.take (i + 1)).map f
  rw [ht, List.map_append, ← e', hyf]; rfl, fun bs e => by
    have e' : bs = (z.cps.toList.take z.length).map f := e
    rw [e', str_len, List.take_length]
    exact q⟩)).k
end
/-- whether a gauge may have this name -/
def gnB (w : Str) : Bool := !decide (w ∈ barS) && (decide (1 ≤ (w.length : Int)) && decide ((w.length : Int) ≤ 12) && (w.cps.toList.map fun c => decide (c ∈ (Str.ofString "abcdefghijklmnopqrstuvwxyz").cps.toList)).all id)
theorem abc_mem {c : Nat} (h : 97 ≤ c ∧ c ≤ 122) : c ∈ (Str.ofString "abcdefghijklmnopqrstuvwxyz").cps.toList := by
  have key : ∀ j : Fin 26, (97 + j.val) ∈ (Str.ofString "abcdefghijklmnopqrstuvwxyz").cps.toList := by decide +kernel
  have := key ⟨c - 97, by omega⟩
  rw [show 97 + (c - 97) = c by omega] at this
  exact this
theorem gnB_good {w : Str} (h : GoodW w) : gnB w = true := by
  obtain ⟨h1, h2, h3, h4⟩ := h
  unfold gnB
  rw [decide_eq_false h4, decide_eq_true (by omega : 1 ≤ (w.length : Int)), decide_eq_true (by omega : (w.length : Int) ≤ 12)]
  simp only [Bool.not_false, Bool.true_and, List.all_map, List.all_eq_true]
  exact fun c hc => decide_eq_true (abc_mem (h3 c hc))
end G
namespace G
open PySem PySem.Spec PyProof.Rows L2 StX
section
variable {X : Cx}
theorem pe_globE {x : Str} {v : V} {pos : Pos} (hm : ∃ u, X.mg x = some u ∧ L2.RelV v u) (hg : Gl X x := by rfl) (hd : (x == ("__debug__" : Str)) = false := by decide) : L2.PE X (.Name x pos) (tC v) := by
  obtain ⟨u, h1, h2⟩ := hm
  exact pe_glob hg h1 h2 hd
theorem pe_cvalK (K : PySem.W.Frag) {e : Expr} {f : Str} {ta : TE} {pos : Pos} (he : L2.PE X e ta) (hb : attributeBase e f X.env (eval e X.env) = eval e X.env := by rfl) (hK : X.K = K := by rfl) : L2.PE X (.Attribute e f pos) (ClX.tCVal K ta f) := by subst hK; exact ClX.pe_cval he hb
end
end G
namespace G
open PySem PySem.Spec PyProof.Rows L2 StX
theorem ev_lenS {W : Wd} {Γ : Gam} {te : TE} {k : Int → Prop} (h : EvK W te Γ fun z : Str => z.length ≤ 100000 ∧ k (z.length : Int)) : EvK W (tCB (fun xs H Q => ∃ z, xs = [.str z] ∧ z.length ≤ sizeLine ∧ Q (.int (z.length : Nat)) H) (tCons te tNil)) Γ k := fun σ H Q G c =>
  h σ H _ G fun v H1 z e1 d ⟨hl, q⟩ => ⟨z, congrArg (fun x => [x]) d, Nat.le_trans hl (by decide), c _ H1 _ e1 rfl q⟩
end G
namespace G
open PySem PySem.Spec PyProof.Rows L2 StX
/-- Gauge.__init__ at an object of any of the four kinds: name and radius are set -/
def spGI (B : Bs) : Sp := fun vs H Q E => ∃ (W : Wd) (p dx : Addr) (fs : List (Str × V)) (kd : GK) (nm : Str) (rd : Int), vs = [.ref p, .str nm, .int rd] ∧ H p = some (.ins (B.cl kd.cn) dx fs) ∧ W.B = B ∧ W.ok H ∧ ¬ W.mu p ∧ fs.length < 900 ∧ gnB nm = true ∧ nm.length ≤ 100000 ∧ 0 ≤ rd ∧ GauT B ∧
  ∀ H', Ext W H H' → Q .non (upd (upd H' p (.ins (B.cl kd.cn) dx (putF "name" (.str nm) fs))) p (.ins (B.cl kd.cn) dx (putF "radius" (.int rd) (putF "name" (.str nm) fs))))
end G
namespace G
open PySem PySem.Spec PyProof.Rows L2 StX
theorem putF_le (f : Str) (v : V) : ∀ fs : List (Str × V), (putF f v fs).length ≤ fs.length + 1
  | [] => Nat.le_refl _
  | (g, x) :: r => by
    unfold putF
    split
    · exact Nat.le_succ _
    · exact Nat.succ_le_succ (putF_le f v r)
end G
namespace G
open PySem PySem.Spec PyProof.Rows L2 StX
theorem gau_of {W : Wd} {B : Bs} (h : W.B = B) (g : GauT B) : GauT W.B := by rw [h]; exact g
end G
set_option Elab.async false
set_option linter.all false
set_option maxRecDepth 100000
set_option maxHeartbeats 2000000
namespace G
open PySem PySem.Spec PyProof.Rows L2 StX
/-- the main module's file, and no own name super at its top -/
class MainP (P : Program) : Prop where
  file : ((P.main.file : Str) == (Str.ofString "/claim/cut.py")) = true
  top : (P.main.scope.names.lookup ("super" : Str)).isSome = false
theorem supS_of {N P : List Str} {sc : Scope} (h1 : sc.kind = .function) (h2 : sc.isCoroutine = false) (h3 : sc.isGenerator = false) (h4 : N.Nodup) (h5 : N = P) (h6 : ∀ x ∈ P, sc.names.lookup x = some .local) (h7 : ∀ p ∈ sc.names, (p.2 = .cell ∨ p.2 = .free) → p.1 = ("__class__" : Str)) (h8 : ∀ y ∈ sc.names, y.2 ≠ .cell) : SupS N P sc :=
  ⟨h1, h2, h3, h4, h5, h6, fun y h => by
    rcases h with h | h
    · exact h7 _ (PySem.mem_of_lookup h) (.inl rfl)
    · exact h7 _ (PySem.mem_of_lookup h) (.inr rfl), h8⟩
structure DefSup (K : PySem.W.Frag) (name qual : Str) (st : Stmt) (f D cc cda : Addr) : Prop where
  fn : ∃ oc od dV kV doc pm an ct osl ar, K.lookup f = some ⟨oc, od, .func (PySem.W.ksFn name qual (defArgs st) (defBody st) (defScope st) dV kV doc pm an (.ref cda) ct cc), osl⟩ ∧ ((defArgs st).posonlyargs ++ (defArgs st).args).head? = some ar ∧ ar.arg = Str.ofString "self" ∧
    ∀ (s : Shared) (u : Value), BindsTo s (PySem.W.ksFn name qual (defArgs st) (defBody st) (defScope st) dV kV doc pm an (.ref cda) ct cc) ⟨[u], []⟩ [(Str.ofString "self", u)]
  cd : PySem.W.codeIn K (.ref cda) qual = true
  rec_ : ∃ ccl cdd vs ccs tf, K.lookup cda = some ⟨ccl, cdd, .fields vs, ccs⟩ ∧ vs[2]? = some (.str (Str.ofString "/claim/cut.py") tf)
  cell : ∃ cl cld csl, K.lookup cc = some ⟨cl, cld, .cell (some (.ref D)), csl⟩
  cls : ∃ cdD, PySem.W.clsIn K D = some cdD
  any : PySem.W.nsIn K cStatics "thirdparty.any" = some none
theorem DefSup.supT {P : Program} [m : MainP P] {K : PySem.W.Frag} {name qual : Str} {st : Stmt} {f D cc cda : Addr} (T : DefSup K name qual st f D cc cda) : SupT P K f D cc cda (Str.ofString "self") := by
  obtain ⟨oc, od, dV, kV, doc, pm, an, ct, osl, ar, h1, h2, h3, _⟩ := T.fn
  obtain ⟨ccl, cdd, vs, ccs, tf, h5, h6⟩ := T.rec_
  exact ⟨⟨_, _, _, _, ar, h1, h2, h3⟩, ⟨_, _, vs, _, _, tf, h5, h6, m.file⟩, T.cell, T.cls, T.any, m.top⟩
theorem fnR_super {CX : CXT} {P : Program} {w : World} {K : PySem.W.Frag} {mg : Str → Option Value} {base : Heap} {k : Nat} {name qual : Str} {st : Stmt} {f D cc cda : Addr} {e : Expr} {pos : Pos} {sp : Sp} (T : DefSup K name qual st f D cc cda) (hb : defBody st = [.Return (some e) pos])
    (S : SupS [Str.ofString "self"] [Str.ofString "self"] (defScope st)) (len : ∀ vs H Q E, sp vs H Q E → vs.length = 1)
    (hbody : ∀ (A : Around) (outer : List Env) (s : Shared) (H : Hp) (vs : List V) (Q : VK) (E : XK), Room k (A.deeper (PySem.W.ksEnv qual (defScope st) s.heap.objs.size f (.ref cda) cc)) → sp vs H Q E →
      ∃ t, PEA (cxS CX P w K mg base [Str.ofString "self"] qual (defScope st) f (.ref cda) cc A outer s H E) [.Return (some e) pos] e t ∧ t (L2.start [Str.ofString "self"] vs) H Q) : FnR P w K mg base CX (k + 1) f sp := by
  obtain ⟨oc, od, dV, kV, doc, pm, an, ct, osl, ar, h1, h2, h3, hbi⟩ := T.fn
  obtain ⟨cl, cld, csl, hcell⟩ := T.cell
  rw [hb] at h1 hbi
  have F := fn_super (CX := CX) (P := P) (w := w) (mg := mg) (base := base) (k := k) (sp := sp) (ps := [Str.ofString "self"]) h1 T.cd S hcell (fun vs H Q E h => len vs H Q E h) hbody
  intro A outer s H us vs Q E hr e0 r hs
  have hl := len _ _ _ _ hs
  obtain ⟨u, rfl⟩ : ∃ u, us = [u] := by
    have := r.length
    rw [hl] at this
    match us, this with
    | [u], _ => exact ⟨u, rfl⟩
  exact F.run A outer s H ⟨[u], []⟩ [u] vs Q E hr e0 (hbi s u) r hs
end G
namespace G
open PySem PySem.Spec PyProof.Rows L2 StX
theorem body_okT {B : Bs} {P : PT} {te : TE} {N : List Str} {vs : List V} {H : Hp} {Q : VK} {E : XK}
    (hb : ∀ (W : Wd) ts rt x, W.B = B → W.ok H → (∀ H', W.ok H' → W.wish H' → XOk W H' E x) → P rt x ts → Sx W (tRet te) (ts.map some ++ List.replicate (N.length - ts.length) none) { nx := fun _ => rt (T ()), rt := rt })
    (h : spG B P vs H Q E) : te (L2.start N vs) H Q := body_ok (t := tRet te) hb h
end G
namespace G
open PySem PySem.Spec PyProof.Rows L2 StX
theorem gau_none {m : Str} (h1 : (m == ("name" : Str)) = false) (h2 : (m == ("radius" : Str)) = false) (h3 : (m == ("late" : Str)) = false) (h4 : (m == ("pace" : Str)) = false) (h5 : (m == ("step" : Str)) = false) (g : Gau) : (gauF g).lookup m = none := by
  unfold gauF
  obtain ⟨k, nm, rd, st, lt, pc⟩ := g
  cases k <;> simp [List.lookup, GK.late, GK.coarse, h1, h2, h3, h4, h5]
def GauOk (g : Gau) : Prop := g.k.late = true → 0 ≤ g.lt ∧ g.lt ≤ 1000000000000
end G
set_option Elab.async false
set_option linter.all false
set_option maxRecDepth 100000
set_option maxHeartbeats 2000000
namespace G
open PySem PySem.Spec PyProof.Rows L2 StX
/-! ### keyword-only parameters: C.__init__(self, .., k = v) -/
section
variable {X : Cx} {CX : CXT} {k n : Nat} {f C : Addr} {fd : FuncData} {ps ks : List Str} {sp : Sp} {E : XK} {x : Str} {p p2 pos : Pos} {e : Expr} {es : List Expr} {kws : List Keyword} {t tk : TA} {g : List Value → List Value → List Value} {gV : List V → List V → List V}
theorem pe_cinitK {pl : Sem Bool} (T : CliT X.K C f) (F : FnOk X.prog X.w X.K X.mg X.base CX k f fd ps sp) (hr : Room k X.A) (hb : KBn X.K fd ps n ks g gV) (hx : Passes CX X E) (hm : X.mg x = some (.ref C)) (ha : PA X (e :: es) t) (hkw : PK X kws tk) (hg : Gl X x := by rfl) (hdb : (x == ("__debug__" : Str)) = false := by decide)
    (hc : eval (.Call (.Attribute (.Name x p) "__init__" p2) (e :: es) kws pos) X.env = (do
      let ov ← eval (.Name x p) X.env
      standAt p2.atName
      let (f, first) ← holding [ov] (getMethod ov "__init__" pl)
      callWith pos f first (backTo pos (starEach (e :: es) X.env)) (backToKw pos (keywordEach kws X.env))) := by rfl)
    (hall : (backToKw pos (keywordEach kws X.env)).all (·.1.isSome) = true := by rfl) (hks : (backToKw pos (keywordEach kws X.env)).filterMap (·.1) = ks := by rfl)
    (he : starEach (e :: es) X.env = (false, eval e X.env) :: starEach es X.env := by rfl)
    (hpl : ((backTo pos (starEach (e :: es) X.env)).any (·.1) || (backToKw pos (keywordEach kws X.env)).any (·.1.isNone)) = false := by rfl) :
    L2.PE X (.Call (.Attribute (.Name x p) "__init__" p2) (e :: es) kws pos) (tCallN n ks.length sp gV E t tk) := by
  refine ⟨fun pins s σ H Q I h => ?_⟩
  refine PySem.W.methodCall_KW (ld_glob I hg hm ?_ hdb) hc
  refine PySem.W.method_cls I.kIn T.ga (PySem.W.cls_value I.kIn T.rd T.at_ (by rfl) ?_)
  show wpAny _ _ (callWith pos (Value.ref f) [] (backTo pos (starEach (e :: es) X.env)) (backToKw pos (keywordEach kws X.env))) _ _ _
  refine PySem.W.callWith_KW (h₀ := X.base) I.ok.mod.kin T.kp hall (thn (ha.run pos pins _ σ H _ (I.tok _) h) fun us s1 ⟨vs, H1, I1, r, q⟩ => ?_) hpl he
  refine thn (hkw.run pos pins s1 σ H1 _ I1 q) fun ws s2 ⟨zs, H2, I2, rz, l1, l2, q2⟩ => ⟨I2.kIn, ?_⟩
  rw [hks]
  exact run_fnN F hr hb hx I2 r rz l1 l2 q2
end
/-- a def with n positional and then keyword-only parameters ks, none with a default -/
structure DefK (K : PySem.W.Frag) (name qual : Str) (st : Stmt) (ps : List Str) (n : Nat) (ks : List Str) (f : Addr) : Prop where
  ex : ∃ fd, Fun K name qual st f fd ∧ KBn K fd ps n ks (fun us ws => us ++ ws) (fun vs zs => vs ++ zs)
theorem kbn_mk {K : PySem.W.Frag} {fd : FuncData} {ps : List Str} {n : Nat} {ks : List Str} (h : ∀ (s : Shared) (us ws : List Value), us.length = n → ws.length = ks.length → BindsTo s fd ⟨us, ks.zip ws⟩ (ps.zip (us ++ ws))) : KBn K fd ps n ks (fun us ws => us ++ ws) (fun vs zs => vs ++ zs) :=
  ⟨fun s us ws _ l1 l2 => h s us ws l1 l2, fun r1 r2 => r1.append r2⟩
end G
namespace G
open PySem PySem.Spec PyProof.Rows L2 StX
/-- CoarseGauge.__init__ at an object of any kind: name, radius and step are set -/
def spCI (B : Bs) : Sp := fun vs H Q E => ∃ (W : Wd) (p dx : Addr) (fs : List (Str × V)) (kd : GK) (nm : Str) (rd st : Int), vs = [.ref p, .str nm, .int rd, .int st] ∧ H p = some (.ins (B.cl kd.cn) dx fs) ∧ W.B = B ∧ W.ok H ∧ ¬ W.mu p ∧ fs.length < 800 ∧ gnB nm = true ∧ nm.length ≤ 100000 ∧ 0 ≤ rd ∧ 1 ≤ st ∧ GauT B ∧
  ∀ H', Ext W H H' → Q .non (upd (upd (upd H' p (.ins (B.cl kd.cn) dx (putF "name" (.str nm) fs))) p (.ins (B.cl kd.cn) dx (putF "radius" (.int rd) (putF "name" (.str nm) fs)))) p (.ins (B.cl kd.cn) dx (putF "step" (.int st) (putF "radius" (.int rd) (putF "name" (.str nm) fs)))))
end G
namespace G
open PySem PySem.Spec PyProof.Rows L2 StX
/-- LateGauge.__init__ at an object of any kind: name, radius, late and pace are set -/
def spTI (B : Bs) : Sp := fun vs H Q E => ∃ (W : Wd) (p dx : Addr) (fs : List (Str × V)) (kd : GK) (nm : Str) (rd lt pc : Int), vs = [.ref p, .str nm, .int rd, .int lt, .int pc] ∧ H p = some (.ins (B.cl kd.cn) dx fs) ∧ W.B = B ∧ W.ok H ∧ ¬ W.mu p ∧ fs.length < 700 ∧ gnB nm = true ∧ nm.length ≤ 100000 ∧ 0 ≤ rd ∧ 0 ≤ lt ∧ 0 ≤ pc ∧ GauT B ∧
  ∀ H', Ext W H H' → Q .non (upd (upd (upd (upd H' p (.ins (B.cl kd.cn) dx (putF "name" (.str nm) fs))) p (.ins (B.cl kd.cn) dx (putF "radius" (.int rd) (putF "name" (.str nm) fs)))) p (.ins (B.cl kd.cn) dx (putF "late" (.int lt) (putF "radius" (.int rd) (putF "name" (.str nm) fs))))) p (.ins (B.cl kd.cn) dx (putF "pace" (.int pc) (putF "late" (.int lt) (putF "radius" (.int rd) (putF "name" (.str nm) fs))))))
end G
namespace G
open PySem PySem.Spec PyProof.Rows L2 StX
/-- LateCoarseGauge.__init__ at a new object -/
def spQI (B : Bs) : Sp := fun vs H Q E => ∃ (W : Wd) (p dx : Addr) (nm : Str) (rd st lt pc : Int), vs = [.ref p, .str nm, .int rd, .int st, .int lt, .int pc] ∧ H p = some (.ins (B.cl .LateCoarseGauge) dx []) ∧ W.B = B ∧ W.ok H ∧ ¬ W.mu p ∧ gnB nm = true ∧ nm.length ≤ 100000 ∧ 0 ≤ rd ∧ 1 ≤ st ∧ 0 ≤ lt ∧ 0 ≤ pc ∧ GauT B ∧
  ∀ H', (∀ a o, ¬ W.mu a → a ≠ p → H a = some o → H' a = some o) → W.ok H' → H' p = some (.ins (B.cl .LateCoarseGauge) dx (gauF ⟨.lc, nm, rd, st, lt, pc⟩)) → Q .non H'
theorem gauF_lc (nm : Str) (rd st lt pc : Int) : putF "step" (.int st) (putF "radius" (.int rd) (putF "name" (.str nm) (putF "pace" (.int pc) (putF "late" (.int lt) (putF "radius" (.int rd) (putF "name" (.str nm) [])))))) = gauF ⟨.lc, nm, rd, st, lt, pc⟩ := by
  have k1 : ¬ (("name" : Str) = "radius") := by decide +kernel
  have k2 : ¬ (("name" : Str) = "late") := by decide +kernel
  have k3 : ¬ (("radius" : Str) = "late") := by decide +kernel
  have k4 : ¬ (("name" : Str) = "pace") := by decide +kernel
  have k5 : ¬ (("radius" : Str) = "pace") := by decide +kernel
  have k6 : ¬ (("late" : Str) = "pace") := by decide +kernel
  have k7 : ¬ (("name" : Str) = "step") := by decide +kernel
  have k8 : ¬ (("radius" : Str) = "step") := by decide +kernel
  have k9 : ¬ (("late" : Str) = "step") := by decide +kernel
  have k10 : ¬ (("pace" : Str) = "step") := by decide +kernel
  simp [putF, gauF, GK.late, GK.coarse, k1, k2, k3, k4, k5, k6, k7, k8, k9, k10]
end G
namespace G
open PySem PySem.Spec PyProof.Rows L2 StX
/-- name and radius set at a new object -/
theorem gauF_pl (nm : Str) (rd st lt pc : Int) : putF "radius" (.int rd) (putF "name" (.str nm) []) = gauF ⟨.pl, nm, rd, st, lt, pc⟩ := by
  have k1 : ¬ (("name" : Str) = "radius") := by decide +kernel
  simp [putF, gauF, GK.late, GK.coarse, k1]
theorem gauF_co (nm : Str) (rd st lt pc : Int) : putF "step" (.int st) (putF "radius" (.int rd) (putF "name" (.str nm) [])) = gauF ⟨.co, nm, rd, st, lt, pc⟩ := by
  have k1 : ¬ (("name" : Str) = "radius") := by decide +kernel
  have k7 : ¬ (("name" : Str) = "step") := by decide +kernel
  have k8 : ¬ (("radius" : Str) = "step") := by decide +kernel
  simp [putF, gauF, GK.late, GK.coarse, k1, k7, k8]
theorem gauF_la (nm : Str) (rd st lt pc : Int) : putF "pace" (.int pc) (putF "late" (.int lt) (putF "radius" (.int rd) (putF "name" (.str nm) []))) = gauF ⟨.la, nm, rd, st, lt, pc⟩ := by
  have k1 : ¬ (("name" : Str) = "radius") := by decide +kernel
  have k2 : ¬ (("name" : Str) = "late") := by decide +kernel
  have k3 : ¬ (("radius" : Str) = "late") := by decide +kernel
  have k4 : ¬ (("name" : Str) = "pace") := by decide +kernel
  have k5 : ¬ (("radius" : Str) = "pace") := by decide +kernel
  have k6 : ¬ (("late" : Str) = "pace") := by decide +kernel
  simp [putF, gauF, GK.late, GK.coarse, k1, k2, k3, k4, k5, k6]
section
variable {W : Wd} {Γ : Gam} {ta tb : TE} {B : Bs} {C : Addr} {E : XK}
/-- Gauge(name, radius), a good name and number -/
theorem ev_gauge {k : Gau → Prop} (st lt pc : Int) (hB : W.B = B) (hC : B.cl .Gauge = C) (hT : GauT B) (h : EvK W ta Γ fun nm : Str => EvK W tb Γ fun rd : Int => (gnB nm = true ∧ nm.length ≤ 100000 ∧ 0 ≤ rd) ∧ k ⟨.pl, nm, rd, st, lt, pc⟩) : EvK W (tMakeR C (spGI B) E (tCons ta (tCons tb tNil))) Γ k := by
  subst hB
  subst hC
  refine fun σ H Q G c => h σ H _ G fun v H1 nm e1 d1 h1 => h1 σ H1 _ (G.ext e1) fun u H2 rd e2 d2 ⟨⟨hg, hn, hr⟩, z⟩ => ?_
  have d1' : v = V.str nm := d1
  have d2' : u = V.int rd := d2
  subst d1' d2'
  intro x dx nx ndx nex
  have e := e1.trans e2
  have m1 := fresh_mu e.ok ndx
  have m2 := fresh_mu e.ok nx
  have ok3 : W.ok (upd (upd H2 dx (.own x)) x (.ins (W.B.cl .Gauge) dx [])) := W.st _ _ _ (W.st _ _ _ e.ok m1) m2
  have e3 : Ext W H2 (upd (upd H2 dx (.own x)) x (.ins (W.B.cl .Gauge) dx [])) := ⟨fun a o _ q => by rw [upd_ne (ne_of_none q nx), upd_ne (ne_of_none q ndx)]; exact q, ok3⟩
  refine ⟨W, x, dx, [], .pl, nm, rd, rfl, upd_same, rfl, ok3, m2, by decide, hg, hn, hr, hT, fun H' e4 => ⟨rfl, ?_⟩⟩
  have e5 := e3.trans e4
  have k7 : Kp W.toWc H2 (upd (upd H' x (.ins (W.B.cl .Gauge) dx (putF "name" (.str nm) []))) x (.ins (W.B.cl .Gauge) dx (putF "radius" (.int rd) (putF "name" (.str nm) [])))) := fun a o m q => by
    rw [upd_ne (ne_of_none q nx), upd_ne (ne_of_none q nx)]
    exact e5.keep a o m q
  refine c (.ref x) _ ⟨.pl, nm, rd, st, lt, pc⟩ (e.trans ⟨k7, W.st _ _ _ (W.st _ _ _ e5.ok m2) m2⟩) ⟨x, dx, rfl, m2, ?_⟩ z
  rw [upd_same]
  show some (HO.ins _ _ (putF "radius" (.int rd) (putF "name" (.str nm) []))) = _
  rw [gauF_pl nm rd st lt pc]
/-- CoarseGauge(name, radius, step=..) -/
theorem ev_coarseG {tc : TE} {k : Gau → Prop} (lt pc : Int) (hB : W.B = B) (hC : B.cl .CoarseGauge = C) (hT : GauT B) (h : EvK W ta Γ fun nm : Str => EvK W tb Γ fun rd : Int => EvK W tc Γ fun st : Int => (gnB nm = true ∧ nm.length ≤ 100000 ∧ 0 ≤ rd ∧ 1 ≤ st) ∧ k ⟨.co, nm, rd, st, lt, pc⟩) : EvK W (tMakeK C 2 1 (spCI B) (fun vs zs => vs ++ zs) E (tCons ta (tCons tb tNil)) (tCons tc tNil)) Γ k := by
  subst hB
  subst hC
  refine fun σ H Q G c => h σ H _ G fun v H1 nm e1 d1 h1 => h1 σ H1 _ (G.ext e1) fun u H2' rd e2' d2 h2 => h2 σ H2' _ ((G.ext e1).ext e2') fun u3 H2 st e3' d3 ⟨⟨hg, hn, hr, hs⟩, z⟩ => ?_
  have d1' : v = V.str nm := d1
  have d2' : u = V.int rd := d2
  have d3' : u3 = V.int st := d3
  subst d1' d2' d3'
  refine ⟨rfl, rfl, ?_⟩
  intro x dx nx ndx nex
  have e := (e1.trans e2').trans e3'
  have m1 := fresh_mu e.ok ndx
  have m2 := fresh_mu e.ok nx
  have ok3 : W.ok (upd (upd H2 dx (.own x)) x (.ins (W.B.cl .CoarseGauge) dx [])) := W.st _ _ _ (W.st _ _ _ e.ok m1) m2
  have e3 : Ext W H2 (upd (upd H2 dx (.own x)) x (.ins (W.B.cl .CoarseGauge) dx [])) := ⟨fun a o _ q => by rw [upd_ne (ne_of_none q nx), upd_ne (ne_of_none q ndx)]; exact q, ok3⟩
  refine ⟨W, x, dx, [], .co, nm, rd, st, rfl, upd_same, rfl, ok3, m2, by decide, hg, hn, hr, hs, hT, fun H' e4 => ⟨rfl, ?_⟩⟩
  have e5 := e3.trans e4
  refine c (.ref x) _ ⟨.co, nm, rd, st, lt, pc⟩ (e.trans ⟨fun a o m q => ?_, W.st _ _ _ (W.st _ _ _ (W.st _ _ _ e5.ok m2) m2) m2⟩) ⟨x, dx, rfl, m2, ?_⟩ z
  · rw [upd_ne (ne_of_none q nx), upd_ne (ne_of_none q nx), upd_ne (ne_of_none q nx)]
    exact e5.keep a o m q
  · rw [upd_same]
    show some (HO.ins _ _ (putF "step" (.int st) (putF "radius" (.int rd) (putF "name" (.str nm) [])))) = _
    rw [gauF_co nm rd st lt pc]
/-- LateGauge(name, radius, late=.., pace=..) -/
theorem ev_lateG {tc td : TE} {k : Gau → Prop} (st : Int) (hB : W.B = B) (hC : B.cl .LateGauge = C) (hT : GauT B) (h : EvK W ta Γ fun nm : Str => EvK W tb Γ fun rd : Int => EvK W tc Γ fun lt : Int => EvK W td Γ fun pc : Int => (gnB nm = true ∧ nm.length ≤ 100000 ∧ 0 ≤ rd ∧ 0 ≤ lt ∧ 0 ≤ pc) ∧ k ⟨.la, nm, rd, st, lt, pc⟩) : EvK W (tMakeK C 2 2 (spTI B) (fun vs zs => vs ++ zs) E (tCons ta (tCons tb tNil)) (tCons tc (tCons td tNil))) Γ k := by
  subst hB
  subst hC
  refine fun σ H Q G c => h σ H _ G fun v H1 nm e1 d1 h1 => h1 σ H1 _ (G.ext e1) fun u H2' rd e2' d2 h2 => h2 σ H2' _ ((G.ext e1).ext e2') fun u3 H3' lt e3' d3 h3 => h3 σ H3' _ (((G.ext e1).ext e2').ext e3') fun u4 H2 pc e4' d4 ⟨⟨hg, hn, hr, hs, hs2⟩, z⟩ => ?_
  have d1' : v = V.str nm := d1
  have d2' : u = V.int rd := d2
  have d3' : u3 = V.int lt := d3
  have d4' : u4 = V.int pc := d4
  subst d1' d2' d3' d4'
  refine ⟨rfl, rfl, ?_⟩
  intro x dx nx ndx nex
  have e := ((e1.trans e2').trans e3').trans e4'
  have m1 := fresh_mu e.ok ndx
  have m2 := fresh_mu e.ok nx
  have ok3 : W.ok (upd (upd H2 dx (.own x)) x (.ins (W.B.cl .LateGauge) dx [])) := W.st _ _ _ (W.st _ _ _ e.ok m1) m2
  have e3 : Ext W H2 (upd (upd H2 dx (.own x)) x (.ins (W.B.cl .LateGauge) dx [])) := ⟨fun a o _ q => by rw [upd_ne (ne_of_none q nx), upd_ne (ne_of_none q ndx)]; exact q, ok3⟩
  refine ⟨W, x, dx, [], .la, nm, rd, lt, pc, rfl, upd_same, rfl, ok3, m2, by decide, hg, hn, hr, hs, hs2, hT, fun H' e4 => ⟨rfl, ?_⟩⟩
  have e5 := e3.trans e4
  refine c (.ref x) _ ⟨.la, nm, rd, st, lt, pc⟩ (e.trans ⟨fun a o m q => ?_, W.st _ _ _ (W.st _ _ _ (W.st _ _ _ (W.st _ _ _ e5.ok m2) m2) m2) m2⟩) ⟨x, dx, rfl, m2, ?_⟩ z
  · rw [upd_ne (ne_of_none q nx), upd_ne (ne_of_none q nx), upd_ne (ne_of_none q nx), upd_ne (ne_of_none q nx)]
    exact e5.keep a o m q
  · rw [upd_same]
    show some (HO.ins _ _ (putF "pace" (.int pc) (putF "late" (.int lt) (putF "radius" (.int rd) (putF "name" (.str nm) []))))) = _
    rw [gauF_la nm rd st lt pc]
/-- LateCoarseGauge(..), gV tells how the keywords as they were written come to their places -/
theorem ev_lcG {k : Gau → Prop} {t tk : TA} {gV : List V → List V → List V} (hB : W.B = B) (hC : B.cl .LateCoarseGauge = C) (hT : GauT B)
    (h : EvA W t Γ fun ts => ∃ (nm : Str) (rd : Int), ts = [T nm, T rd] ∧ EvA W tk Γ fun us => ∃ a b c st lt pc : Int, us = [T a, T b, T c] ∧ (∀ x y q : V, gV [x, y, q] [.int a, .int b, .int c] = [x, y, q, .int st, .int lt, .int pc]) ∧ (gnB nm = true ∧ nm.length ≤ 100000 ∧ 0 ≤ rd ∧ 1 ≤ st ∧ 0 ≤ lt ∧ 0 ≤ pc) ∧ k ⟨.lc, nm, rd, st, lt, pc⟩) : EvK W (tMakeK C 2 3 (spQI B) gV E t tk) Γ k := by
  subst hB
  subst hC
  refine fun σ H Q G cc => h σ H _ G fun vs H1 ts e1 d1 ⟨nm, rd, et, h1⟩ => h1 σ H1 _ (G.ext e1) fun zs H2 us e2 d2 ⟨a, b, c, st, lt, pc, eu, hv, ⟨hg, hn, hr, hs, hl, hp⟩, z⟩ => ?_
  subst et eu
  cases d1 with
  | cons x1 d1 =>
  cases d1 with
  | cons x2 d1 =>
  cases d1
  cases d2 with
  | cons y1 d2 =>
  cases d2 with
  | cons y2 d2 =>
  cases d2 with
  | cons y3 d2 =>
  cases d2
  rw [show _ = V.str nm from x1, show _ = V.int rd from x2, show _ = V.int a from y1, show _ = V.int b from y2, show _ = V.int c from y3]
  refine ⟨rfl, rfl, ?_⟩
  intro x dx nx ndx nex
  rw [hv]
  have e := e1.trans e2
  have m1 := fresh_mu e.ok ndx
  have m2 := fresh_mu e.ok nx
  have ok3 : W.ok (upd (upd H2 dx (.own x)) x (.ins (W.B.cl .LateCoarseGauge) dx [])) := W.st _ _ _ (W.st _ _ _ e.ok m1) m2
  have e3 : Ext W H2 (upd (upd H2 dx (.own x)) x (.ins (W.B.cl .LateCoarseGauge) dx [])) := ⟨fun a o _ q => by rw [upd_ne (ne_of_none q nx), upd_ne (ne_of_none q ndx)]; exact q, ok3⟩
  refine ⟨W, x, dx, nm, rd, st, lt, pc, rfl, upd_same, rfl, ok3, m2, hg, hn, hr, hs, hl, hp, hT, fun H' hk ho hx => ⟨rfl, ?_⟩⟩
  refine cc (.ref x) _ ⟨.lc, nm, rd, st, lt, pc⟩ (e.trans ⟨fun a o m q => ?_, ho⟩) ⟨x, dx, rfl, m2, hx⟩ z
  exact hk a o m (ne_of_none q nx) (e3.keep a o m q)
end
end G
set_option Elab.async false
set_option linter.all false
set_option maxRecDepth 100000
set_option maxHeartbeats 2000000
namespace G
open PySem PySem.Spec PyProof.Rows L2 StX
/-! ### what a drawn gauge is to be: a tuple of a text and five numbers -/
structure Spc where
  nm : Str
  so : Int
  rd : Int
  gr : Int
  la : Int
  dr : Int
  deriving DecidableEq
def Spc.vs (s : Spc) : List V := [.str s.nm, .int s.so, .int s.rd, .int s.gr, .int s.la, .int s.dr]
instance : Rep Spc :=
  ⟨fun W H v s => ∃ p, v = .ref p ∧ Tq W H p s.vs,
   fun e ⟨p, hv, s⟩ => ⟨p, hv, s.mono e⟩,
   fun D n ⟨p, hv, s⟩ => ⟨p, hv, s.grow D n⟩,
   fun D ⟨p, hv, s⟩ => ⟨p, hv, s.shrink D⟩⟩
section
variable {W : Wd} {Γ : Gam} {ta t1 t2 t3 t4 t5 t6 : TE} {K : PySem.W.Frag}
theorem ev_ixSp0 {k : Str → Prop} (hK : W.B.K = K) (h : EvK W ta Γ fun s : Spc => k s.nm) : EvK W (tOp (rIxT K) ta (tC (.int 0))) Γ k := by
  subst hK
  refine fun σ H Q E c => h σ H _ E fun v H1 a e1 ⟨p, hv, s⟩ q => ?_
  exact ⟨p, _, 0, _, hv, rfl, s.sq, rfl, c _ H1 a.nm e1 rfl q⟩
theorem ev_ixSp {k : Int → Prop} (j : Int) (f : Spc → Int) (hf : ∀ s : Spc, atI s.vs j = some (.int (f s))) (hK : W.B.K = K) (h : EvK W ta Γ fun s : Spc => k (f s)) : EvK W (tOp (rIxT K) ta (tC (.int j))) Γ k := by
  subst hK
  refine fun σ H Q E c => h σ H _ E fun v H1 a e1 ⟨p, hv, s⟩ q => ?_
  exact ⟨p, _, j, _, hv, rfl, s.sq, hf a, c _ H1 (f a) e1 rfl q⟩
theorem ev_ixSp1 {k : Int → Prop} (hK : W.B.K = K) (h : EvK W ta Γ fun s : Spc => k s.so) : EvK W (tOp (rIxT K) ta (tC (.int 1))) Γ k := ev_ixSp 1 Spc.so (fun _ => rfl) hK h
theorem ev_ixSp2 {k : Int → Prop} (hK : W.B.K = K) (h : EvK W ta Γ fun s : Spc => k s.rd) : EvK W (tOp (rIxT K) ta (tC (.int 2))) Γ k := ev_ixSp 2 Spc.rd (fun _ => rfl) hK h
theorem ev_ixSp3 {k : Int → Prop} (hK : W.B.K = K) (h : EvK W ta Γ fun s : Spc => k s.gr) : EvK W (tOp (rIxT K) ta (tC (.int 3))) Γ k := ev_ixSp 3 Spc.gr (fun _ => rfl) hK h
theorem ev_ixSp4 {k : Int → Prop} (hK : W.B.K = K) (h : EvK W ta Γ fun s : Spc => k s.la) : EvK W (tOp (rIxT K) ta (tC (.int 4))) Γ k := ev_ixSp 4 Spc.la (fun _ => rfl) hK h
theorem ev_ixSp5 {k : Int → Prop} (hK : W.B.K = K) (h : EvK W ta Γ fun s : Spc => k s.dr) : EvK W (tOp (rIxT K) ta (tC (.int 5))) Γ k := ev_ixSp 5 Spc.dr (fun _ => rfl) hK h
/-- (name, sort, radius, grain, late, drift) -/
theorem ev_tupSp {k : Spc → Prop} (h : EvK W t1 Γ fun a : Str => EvK W t2 Γ fun b : Int => EvK W t3 Γ fun c : Int => EvK W t4 Γ fun d : Int => EvK W t5 Γ fun e : Int => EvK W t6 Γ fun f : Int => k ⟨a, b, c, d, e, f⟩) :
    EvK W (tTup (tCons t1 (tCons t2 (tCons t3 (tCons t4 (tCons t5 (tCons t6 tNil))))))) Γ k := fun σ H Q E cc =>
  h σ H _ E fun x1 H1 a e1 d1 h1 => h1 σ H1 _ (E.ext e1) fun x2 H2 b e2 d2 h2 => h2 σ H2 _ ((E.ext e1).ext e2) fun x3 H3 c e3 d3 h3 => h3 σ H3 _ (((E.ext e1).ext e2).ext e3) fun x4 H4 d e4 d4 h4 =>
    h4 σ H4 _ ((((E.ext e1).ext e2).ext e3).ext e4) fun x5 H5 e e5 d5 h5 => h5 σ H5 _ (((((E.ext e1).ext e2).ext e3).ext e4).ext e5) fun x6 H6 f e6 d6 z => ⟨by show 6 ≤ sizeLine; decide, fun p hp => by
      have e7 := Ext.new (o := .tup [x1, x2, x3, x4, x5, x6]) e6.ok hp
      refine cc _ _ ⟨a, b, c, d, e, f⟩ ((((((e1.trans e2).trans e3).trans e4).trans e5).trans e6).trans e7) ⟨p, rfl, ?_⟩ z
      rw [show (Spc.vs ⟨a, b, c, d, e, f⟩) = [x1, x2, x3, x4, x5, x6] by
        rw [show x1 = V.str a from d1, show x2 = V.int b from d2, show x3 = V.int c from d3, show x4 = V.int d from d4, show x5 = V.int e from d5, show x6 = V.int f from d6]
        rfl]
      exact Tq.new (fresh_mu e6.ok hp) upd_same⟩
end
end G
namespace G
open PySem PySem.Spec PyProof.Rows L2 StX
/-- int(b), b a bool -/
theorem ev_intB {W : Wd} {Γ : Gam} {te : TE} {k : Int → Prop} (h : EvK W te Γ fun b : Bool => k (if b = true then 1 else 0)) : EvK W (tCB (fun xs H Q => (∃ i, xs = [.int i] ∧ Q (.int i) H) ∨ ∃ k, xs = [.bl k] ∧ Q (.int (if k = true then 1 else 0)) H) (tCons te tNil)) Γ k := fun σ H Q G c =>
  h σ H _ G fun v H1 b e1 d q => .inr ⟨b, congrArg (fun x => [x]) d, c _ H1 _ e1 rfl q⟩
end G
set_option Elab.async false
set_option linter.all false
set_option maxRecDepth 100000
set_option maxHeartbeats 2000000
namespace G
open PySem PySem.Spec PyProof.Rows L2 StX
/-! ### three keywords in turned order -/
def rot3 {α : Type} : List α → List α
  | [a, b, c] => [b, c, a]
  | l => l
theorem rot3_vals : ∀ {zs : List V} {ws : List Value}, Vals zs ws → Vals (rot3 zs) (rot3 ws)
  | _, _, .nil => .nil
  | _, _, .cons a .nil => .cons a .nil
  | _, _, .cons a (.cons b .nil) => .cons a (.cons b .nil)
  | _, _, .cons a (.cons b (.cons c .nil)) => .cons b (.cons c (.cons a .nil))
  | _, _, .cons a (.cons b (.cons c (.cons d e))) => .cons a (.cons b (.cons c (.cons d e)))
theorem kbn_mkR {K : PySem.W.Frag} {fd : FuncData} {ps : List Str} {n : Nat} {ks : List Str} (h : ∀ (s : Shared) (us ws : List Value), us.length = n → ws.length = ks.length → BindsTo s fd ⟨us, ks.zip ws⟩ (ps.zip (us ++ rot3 ws))) : KBn K fd ps n ks (fun us ws => us ++ rot3 ws) (fun vs zs => vs ++ rot3 zs) :=
  ⟨fun s us ws _ l1 l2 => h s us ws l1 l2, fun r1 r2 => r1.append (rot3_vals r2)⟩
/-- a def with n positional and then keyword-only parameters, called with these in two orders -/
structure DefKR (K : PySem.W.Frag) (name qual : Str) (st : Stmt) (ps : List Str) (n : Nat) (ks kr : List Str) (f : Addr) : Prop where
  ex : ∃ fd, Fun K name qual st f fd ∧ KBn K fd ps n ks (fun us ws => us ++ ws) (fun vs zs => vs ++ zs) ∧ KBn K fd ps n kr (fun us ws => us ++ rot3 ws) (fun vs zs => vs ++ rot3 zs)
/-! ### a drawn gauge -/
def kdS (n : Int) : GK := if n = 1 then .co else if n = 2 then .la else if n = 3 then .lc else .pl
def gauS (s : Spc) : Gau := ⟨kdS s.so, s.nm, s.rd, s.gr, s.la, s.dr⟩
structure SpcOk (s : Spc) : Prop where
  nm : GoodW s.nm
  so : s.so = 0 ∨ s.so = 1 ∨ s.so = 2 ∨ s.so = 3
  rd : 0 ≤ s.rd ∧ s.rd ≤ 1000000000
  gr : 1 ≤ s.gr ∧ s.gr ≤ 1000000000
  la : 0 ≤ s.la ∧ s.la ≤ 1000
  dr : 0 ≤ s.dr ∧ s.dr ≤ 1000000000
theorem goodW_ok {w : Str} (h : GoodW w) : PyData.strOk w = true := by
  obtain ⟨_, _, h3, _⟩ := h
  unfold PyData.strOk
  rw [← Array.all_toList, List.all_eq_true]
  intro c hc
  have := h3 c hc
  simp
  omega
theorem gauS_ok {s : Spc} (h : SpcOk s) : GauOk (gauS s) := fun _ => ⟨h.la.1, by have := h.la.2; show s.la ≤ 1000000000000; omega⟩
theorem sl_sb {s : Spc} (h : SpcOk s) : s.rd + s.la * s.dr * (if decide (2 ≤ s.so) = true then 1 else 0) = sbF (gauS s) := by
  obtain ⟨nm, so, rd, gr, la, dr⟩ := s
  have := h.so
  rcases this with e | e | e | e <;> simp at e <;> subst e <;> simp [sbF, gauS, kdS, GK.late]
theorem sl_sa {s : Spc} (h : SpcOk s) : s.rd + s.la * s.dr * (if decide (2 ≤ s.so) = true then 1 else 0) + (s.gr - 1) * (if (decide (s.so = 1) || decide (s.so = 3)) = true then 1 else 0) = saF (gauS s) := by
  obtain ⟨nm, so, rd, gr, la, dr⟩ := s
  have := h.so
  rcases this with e | e | e | e <;> simp at e <;> subst e <;> simp [saF, gauS, kdS, GK.late, GK.coarse] <;> omega
theorem mul_ge0 {a b : Int} (h1 : 0 ≤ a) (h2 : 0 ≤ b) : 0 ≤ a * b := Int.mul_nonneg h1 h2
theorem mul_le2 {a b A B : Int} (h1 : 0 ≤ a) (h2 : 0 ≤ b) (h3 : a ≤ A) (h4 : b ≤ B) : a * b ≤ A * B := Int.mul_le_mul h3 h4 h2 (by omega)
theorem gau_ge {s : Spc} (h : SpcOk s) : 0 ≤ sbF (gauS s) ∧ 0 ≤ saF (gauS s) := by
  have h1 := mul_ge0 h.la.1 h.dr.1
  have h2 := h.rd.1
  have h3 := h.gr.1
  unfold sbF saF
  constructor
  · show 0 ≤ s.rd + (if (gauS s).k.late = true then s.la * s.dr else 0)
    split <;> omega
  · show 0 ≤ s.rd + (if (gauS s).k.coarse = true then s.gr - 1 else 0) + (if (gauS s).k.late = true then s.la * s.dr else 0)
    split <;> split <;> omega
section
variable {W : Wd} {Γ : Gam} {te : TE}
/-- isinstance(g, C), g a gauge: f tells of which kinds -/
theorem ev_isiG {K : PySem.W.Frag} {C2 : Addr} {k : Bool → Prop} (f : GK → Bool) (hK : W.B.K = K) (hT : ∀ kd : GK, IsT K (W.B.cl kd.cn)) (hk : ∀ kd : GK, PySem.W.kitOne K (.ref (W.B.cl kd.cn)) (.ref C2) = some (f kd)) (h : EvK W te Γ fun g : Gau => k (f g.k)) :
    EvK W (tCB (rIsi K) (tCons te (tCons (tC (.ref C2)) tNil))) Γ k := by
  subst hK
  refine fun σ H Q E q => h σ H _ E fun v H1 g e1 ⟨p, dp, hv, _, hH⟩ z => ?_
  subst hv
  exact ⟨.ref p, .ref C2, _, _, _, rfl, .own C2, .base (.ins hH (hT g.k).c (hT g.k).f (hT g.k).s (hT g.k).t (hT g.k).m), hk g.k, q _ H1 _ e1 rfl z⟩
/-- .., for the walk -/
theorem ev_isiGv {K : PySem.W.Frag} {C2 : Addr} {k : Bool → Prop} (hK : W.B.K = K) (h : EvK W te Γ fun g : Gau => ∃ f : GK → Bool, (∀ kd : GK, IsT K (W.B.cl kd.cn)) ∧ (∀ kd : GK, PySem.W.kitOne K (.ref (W.B.cl kd.cn)) (.ref C2) = some (f kd)) ∧ k (f g.k)) :
    EvK W (tCB (rIsi K) (tCons te (tCons (tC (.ref C2)) tNil))) Γ k := by
  subst hK
  refine fun σ H Q E q => h σ H _ E fun v H1 g e1 ⟨p, dp, hv, _, hH⟩ ⟨f, hT, hk, z⟩ => ?_
  subst hv
  exact ⟨.ref p, .ref C2, _, _, _, rfl, .own C2, .base (.ins hH (hT g.k).c (hT g.k).f (hT g.k).s (hT g.k).t (hT g.k).m), hk g.k, q _ H1 _ e1 rfl z⟩
end
end G
set_option Elab.async false
set_option linter.all false
set_option maxRecDepth 100000
set_option maxHeartbeats 2000000
namespace G
open PySem PySem.Spec PyProof.Rows L2 StX
/-! ### x = y = e; x op= e; while -/
section
variable {W : Wd} {F : Hp} {L : Own} {Γ : Gam} {te : TE} {tt : TT} {t : TS}
theorem sx_asg2 {α : Type} {rα : Rep α} {R : Po} {i j : Nat} (h : EvK W te Γ fun a : α => R.nx ((Γ.set i (some (T a))).set j (some (T a)))) : Sx W (tAsg2 te (gName i) (gName j)) Γ R := fun D σ H E O =>
  h σ H _ E fun v H1 a e1 d q => O.nx _ H1 _ e1 (((E.ext e1).set i (t := T a) d).set j (t := T a) d) q
theorem sx_aug {R : Po} {i : Nat} {f : Int → Int → Int} {a : Int} (hi : Γ[i]? = some (some (T a))) (h : EvK W te Γ fun b : Int => R.nx (Γ.set i (some (T (f a b))))) : Sx W (tAug i te (ipI f)) Γ R := fun D σ H E O => by
  obtain ⟨x, hx, (dx : x = .int a)⟩ := E.at_ i _ hi
  subst dx
  refine ⟨_, hx, h σ H _ E fun v H1 b e1 (d : v = .int b) q => ?_⟩
  subst d
  exact ⟨a, b, rfl, rfl, O.nx _ H1 _ e1 ((E.ext e1).set i (t := T (f a b)) rfl) q⟩
/-- while, with a measure m that falls and an invariant -/
theorem sx_while {R : Po} (I : Nat → Gam → Prop) (m : Nat) (h0 : I m Γ)
    (hs : ∀ m Γ', I m Γ' → EvT W tt Γ' fun b => (b = true → Sx W t Γ' { R with nx := fun Γ2 => ∃ m', m' < m ∧ I m' Γ2, ct := fun Γ2 => ∃ m', m' < m ∧ I m' Γ2, bk := R.nx }) ∧ (b = false → R.nx Γ')) : Sx W (tWhile tt t) Γ R := fun D σ H G O => by
  refine ⟨fun m σ' H' => Ext W H H' ∧ ∃ Γ', GOk W H' σ' Γ' ∧ I m Γ', ⟨m, Ext.refl G.ok, Γ, G, h0⟩, fun m σ' H' ⟨e, Γ', G', q⟩ => ?_⟩
  refine hs m Γ' q σ' H' _ G' fun H1 b e1 ⟨h1, h2⟩ => ?_
  have G1 := G'.ext e1
  cases b with
  | true =>
    refine ⟨fun σ2 H2 => ∃ m', m' < m ∧ (Ext W H H2 ∧ ∃ Γ', GOk W H2 σ2 Γ' ∧ I m' Γ'), fun _ _ z => z, h1 rfl _ σ' H1 G1 ⟨?_, ?_, ?_, ?_⟩⟩
    · exact fun σ2 H2 Γ2 e2 G2 ⟨m', l, z⟩ => ⟨m', l, (e.trans e1).trans e2, Γ2, G2, z⟩
    · exact fun v H2 t2 e2 d q2 => O.rt v H2 t2 ((e.trans e1).trans e2) d q2
    · exact fun σ2 H2 Γ2 e2 G2 q2 => O.nx σ2 H2 Γ2 ((e.trans e1).trans e2) G2 q2
    · exact fun σ2 H2 Γ2 e2 G2 ⟨m', l, z⟩ => ⟨m', l, (e.trans e1).trans e2, Γ2, G2, z⟩
  | false => exact O.nx σ' H1 Γ' (e.trans e1) G1 (h2 rfl)
/-- .., with own lists -/
theorem sxm_while {R : PoM} (I : Nat → Own → Gam → Prop) (m : Nat) (h0 : I m L Γ)
    (hs : ∀ m L' Γ', I m L' Γ' → ∀ Wo, OwnW W L' Wo → EvT Wo tt Γ' fun b => (b = true → SxM W F t L' Γ' { R with nx := fun L2 Γ2 => ∃ m', m' < m ∧ I m' L2 Γ2, ct := fun L2 Γ2 => ∃ m', m' < m ∧ I m' L2 Γ2, bk := R.nx }) ∧ (b = false → R.nx L' Γ')) : SxM W F (tWhile tt t) L Γ R := fun D σ H oF nF wF nd G O => by
  refine ⟨fun m σ' H' => ∃ L' oF nF Γ', Stp W L H L' H' ∧ (keys L').Nodup ∧ GOk (W.own F L' oF nF) H' σ' Γ' ∧ I m L' Γ', ⟨m, L, oF, nF, Γ, .refl, nd, G, h0⟩, fun m σ' H' ⟨L', oF', nF', Γ', s, nd', G', q⟩ => ?_⟩
  refine hs m L' Γ' q _ (own_w (oF := oF') (nF := nF') wF) σ' H' _ G' fun H1 b e1 ⟨h1, h2⟩ => ?_
  have G1 := G'.ext e1
  have s1 : Stp W L H L' H1 := s.trans G'.ok.1 (own_stp e1)
  cases b with
  | true =>
    refine ⟨fun σ2 H2 => ∃ m', m' < m ∧ (∃ L' oF nF Γ', Stp W L H L' H2 ∧ (keys L').Nodup ∧ GOk (W.own F L' oF nF) H2 σ2 Γ' ∧ I m' L' Γ'), fun _ _ z => z, h1 rfl _ σ' H1 oF' nF' wF nd' G1 ⟨?_, ?_, ?_, ?_⟩⟩
    · exact fun L3 oF3 nF3 σ3 H3 Γ3 s3 nd3 G3 ⟨m', l, z⟩ => ⟨m', l, L3, oF3, nF3, Γ3, s1.trans G1.ok.1 s3, nd3, G3, z⟩
    · exact fun v3 H3 t3 e3 d3 q3 => O.rt v3 H3 t3 e3 d3 q3
    · exact fun L3 oF3 nF3 σ3 H3 Γ3 s3 nd3 G3 q3 => O.nx L3 oF3 nF3 σ3 H3 Γ3 (s1.trans G1.ok.1 s3) nd3 G3 q3
    · exact fun L3 oF3 nF3 σ3 H3 Γ3 s3 nd3 G3 ⟨m', l, z⟩ => ⟨m', l, L3, oF3, nF3, Γ3, s1.trans G1.ok.1 s3, nd3, G3, z⟩
  | false => exact O.nx L' oF' nF' σ' H1 Γ' s1 nd' G1 (h2 rfl)
end
/-! ### two sets in step -/
theorem nf_drop {ps : List (Int × Int)} (h : NF ps) (i : Nat) : NF (ps.drop i) :=
  ⟨fun q hq => h.1 q (List.mem_of_mem_drop hq), h.2.sublist (List.drop_sublist i ps)⟩
theorem memP_cons {x : Int} {p : Int × Int} {r : List (Int × Int)} : memP x (p :: r) ↔ inP' x p ∨ memP x r := by
  unfold memP
  constructor
  · rintro ⟨q, hq, hx⟩
    rcases List.mem_cons.mp hq with rfl | hq
    · exact .inl hx
    · exact .inr ⟨q, hq, hx⟩
  · rintro (h | ⟨q, hq, hx⟩)
    · exact ⟨p, List.mem_cons_self, h⟩
    · exact ⟨q, List.mem_cons_of_mem _ hq, hx⟩
theorem meet_step {a b : Int × Int} {A B : List (Int × Int)} (hB : NF (b :: B)) (h : a.2 < b.2) (x : Int) : (memP x (a :: A) ∧ memP x (b :: B)) ↔ (inP' x a ∧ inP' x b) ∨ (memP x A ∧ memP x (b :: B)) := by
  rw [memP_cons (p := a), memP_cons (p := b)]
  constructor
  · rintro ⟨h1 | h1, h2 | h2⟩
    · exact .inl ⟨h1, h2⟩
    · obtain ⟨q, hq, hx⟩ := h2
      have := (nf_cons hB).2.2 q hq
      have h3 := h1.2; have h4 := hx.1
      omega
    · exact .inr ⟨h1, .inl h2⟩
    · exact .inr ⟨h1, .inr h2⟩
  · rintro (⟨h1, h2⟩ | ⟨h1, h2⟩)
    · exact ⟨.inl h1, .inl h2⟩
    · exact ⟨.inr h1, h2⟩
theorem meet_step2 {a b : Int × Int} {A B : List (Int × Int)} (hA : NF (a :: A)) (h : b.2 ≤ a.2) (x : Int) : (memP x (a :: A) ∧ memP x (b :: B)) ↔ (inP' x a ∧ inP' x b) ∨ (memP x (a :: A) ∧ memP x B) := by
  rw [memP_cons (p := a), memP_cons (p := b)]
  constructor
  · rintro ⟨h1 | h1, h2 | h2⟩
    · exact .inl ⟨h1, h2⟩
    · exact .inr ⟨.inl h1, h2⟩
    · obtain ⟨q, hq, hx⟩ := h1
      have := (nf_cons hA).2.2 q hq
      have h3 := h2.2; have h4 := hx.1
      omega
    · exact .inr ⟨.inr h1, h2⟩
  · rintro (⟨h1, h2⟩ | ⟨h1, h2⟩)
    · exact ⟨.inl h1, .inl h2⟩
    · exact ⟨h1, .inr h2⟩
end G
set_option Elab.async false
set_option linter.all false
set_option maxRecDepth 100000
set_option maxHeartbeats 2000000
namespace G
open PySem PySem.Spec PyProof.Rows L2 StX
/-! ### iterations of any kind -/
/-- nothing or one new thing -/
def Nw (H H' : Hp) : Prop := H' = H ∨ ∃ t o, H t = none ∧ H' = upd H t o
theorem Nw.gr {H H' : Hp} (h : Nw H H') {a : Addr} {o : HO} (e : H a = some o) : H' a = some o := by
  rcases h with rfl | ⟨t, u, ht, rfl⟩
  · exact e
  · rw [upd_ne (ne_of_none e ht)]
    exact e
theorem Nw.ext {W : Wd} {H H' : Hp} (h : Nw H H') (o : W.ok H) : Ext W H H' := by
  rcases h with rfl | ⟨t, u, ht, rfl⟩
  · exact Ext.refl o
  · exact Ext.new o ht
theorem Nw.kp {W : Wc} {H H' : Hp} (h : Nw H H') : Kp W H H' := fun _ _ _ e => h.gr e
/-- an iteration over as, begun at H1 -/
structure ItOk {α : Type} [Rep α] (W : Wd) (H1 : Hp) (J : It) (as : List α) : Prop where
  go : ∀ i H', Kp W.toWc H1 H' → i < as.length → J.go i H'
  stop : ∀ H', Kp W.toWc H1 H' → J.stop as.length H'
  yld : ∀ i H' x H'', Kp W.toWc H1 H' → (∀ a, W.mu a → ∃ o, H' a = some o) → i < as.length → J.yld i H' x H'' → ∃ a, as[i]? = some a ∧ Nw H' H'' ∧ den W.toWc H'' x a ∧ ∀ D o, H1 D = none → H' D = some o → den (W.toWc.plus D) H'' x a
def EvI {α : Type} [Rep α] (W : Wd) (wi : TI) (Γ : Gam) (k : List α → Prop) : Prop :=
  ∀ σ H (R : It → Hp → Prop), GOk W H σ Γ → (∀ J H1 (as : List α), Ext W H H1 → ItOk W H1 J as → k as → R J H1) → wi σ H R
section
variable {W : Wd} {Γ : Gam} {ta : TA} {te tl : TE} {tt tt2 : TT} {g g2 : TG} {wi wi2 : TI} {K : PySem.W.Frag}
theorem ei_list {α : Type} {rα : Rep α} {k : List α → Prop} (hK : W.B.K = K) (h : EvK W te Γ fun as : List α => k as) : EvI W (iList K te) Γ k := by
  subst hK
  refine fun σ H R G c => h σ H _ G fun v H1 as e1 ⟨p, xs, hv, hp, hd⟩ z => ⟨p, hv, ⟨xs, hp.sq⟩, c _ H1 as e1 ⟨?_, ?_, ?_⟩ z⟩
  · intro i H' kp hi
    rw [← hd.length] at hi
    exact ⟨xs, xs[i], (hp.mono kp).sq, List.getElem?_eq_getElem hi⟩
  · intro H' kp
    exact ⟨xs, (hp.mono kp).sq, by rw [hd.length]; exact Nat.le_refl _⟩
  · rintro i H' x H'' kp _ hi ⟨rfl, hx⟩
    obtain ⟨a, ea, da⟩ := hd.at (hx xs (hp.mono kp).sq)
    exact ⟨a, ea, .inl rfl, Rep.mono kp da, fun D o nD _ => Rep.mono (W := W.toWc.plus D) (fun b o mb z => kp b o (fun q => mb (.inl q)) z) (Rep.grow D nD da)⟩
theorem ei_enum {α : Type} {rα : Rep α} {k : List (Int × α) → Prop} (hK : W.B.K = K) (h : EvK W te Γ fun as : List α => k (enumF as)) : EvI W (iEnum K (tCons te tNil)) Γ k := by
  subst hK
  refine fun σ H R G c => h σ H _ G fun v H1 as e1 ⟨p, xs, hv, hp, hd⟩ z => ⟨p, xs, by rw [hv], hp.sq, c _ H1 _ e1 ⟨?_, ?_, ?_⟩ z⟩
  · intro i H' kp hi
    rw [enumF_length, ← hd.length] at hi
    exact ⟨xs, xs[i], (hp.mono kp).sq, List.getElem?_eq_getElem hi⟩
  · intro H' kp
    exact ⟨xs, (hp.mono kp).sq, by rw [enumF_length, hd.length]; exact Nat.le_refl _⟩
  · rintro i H' v' H'' kp live hi ⟨t, x, rfl, ht, rfl, hx⟩
    obtain ⟨a, ea, da⟩ := hd.at (hx xs (hp.mono kp).sq)
    have nmt : ¬ W.mu t := fun m => by obtain ⟨o, e⟩ := live t m; rw [ht] at e; cases e
    have nw : Nw H' (upd H' t (.tup [.int (i : Nat), x])) := .inr ⟨t, _, ht, rfl⟩
    refine ⟨((i : Int), a), enumF_at ea, nw, ⟨t, .int (i : Nat), x, rfl, ⟨nmt, upd_same⟩, rfl, Rep.mono nw.kp (Rep.mono kp da)⟩, fun D o nD hD => ?_⟩
    refine ⟨t, .int (i : Nat), x, rfl, ⟨fun m => m.elim nmt fun e => (by rw [e, hD] at ht; cases ht), upd_same⟩, rfl, ?_⟩
    exact Rep.mono (W := W.toWc.plus D) nw.kp (Rep.mono (W := W.toWc.plus D) (fun b o mb z => kp b o (fun q => mb (.inl q)) z) (Rep.grow D nD da))
theorem ei_rng1 {k : List Int → Prop} (h : EvK W te Γ fun m : Int => (-(2 ^ 62) ≤ m ∧ m < 2 ^ 62) ∧ k ((List.range m.toNat).map fun i : Nat => (i : Int))) : EvI W (iRng1 (tCons te tNil)) Γ k := by
  refine fun σ H R G c => h σ H _ G fun v H1 m e1 hv ⟨⟨b1, b2⟩, z⟩ => ⟨m, congrArg (fun x => [x]) hv, b1, b2, c _ H1 _ e1 ⟨?_, ?_, ?_⟩ z⟩
  · intro i H' kp hi
    rw [List.length_map, List.length_range] at hi
    exact hi
  · intro H' kp
    show m.toNat ≤ _
    rw [List.length_map, List.length_range]
    exact Nat.le_refl _
  · rintro i H' x H'' kp _ hi ⟨rfl, hx⟩
    rw [List.length_map, List.length_range] at hi
    have hx' : x = V.int (i : Nat) := by rw [hx, Int.zero_add]
    exact ⟨(i : Int), by rw [List.getElem?_map, List.getElem?_range hi]; rfl, .inl rfl, hx', fun D o _ _ => hx'⟩
/-- a turn of the outer clause -/
def Lc2TurnG {α β γ : Type} [Rep α] [Rep β] [Rep γ] (W0 W : Wd) (g : TG) (tt : TT) (wi2 : TI) (g2 : TG) (tt2 : TT) (te : TE) (vs vs1 : List Nat) (Γ : Gam) (a : α) (f : List γ) : Prop :=
  ∃ js : List Nat, (js.all fun j => vs.contains j) = true ∧ Tj W js g (wipeE Γ vs) a fun Γ1 => EvT W tt Γ1 fun b => (b = false → f = []) ∧ (b = true → EvI W wi2 Γ1 fun bs : List β => ∃ (p : β → Bool) (h : β → γ), (bs.filter p).map h = f ∧
    ∀ W', Sub W0 W' → ∀ b ∈ bs, ∃ js2 : List Nat, (js2.all fun j => vs1.contains j) = true ∧ Tj W' js2 g2 (wipeE Γ1 vs1) b fun Γ2 => EvT W' tt2 Γ2 fun c => c = p b ∧ (c = true → EvK W' te Γ2 fun y : γ => y = h b))
theorem evF_lc2G {α β γ : Type} {rα : Rep α} {rβ : Rep β} {rγ : Rep γ} {vs vs1 : List Nat} (f : α → List γ) {k : List γ → Prop}
    (h : EvI W wi Γ fun as : List α => ((as.flatMap f).length ≤ 100000) ∧ (∀ W', Sub W W' → ∀ a ∈ as, Lc2TurnG (β := β) W W' g tt wi2 g2 tt2 te vs vs1 Γ a (f a)) ∧ k (as.flatMap f)) :
    EvF W (tLc2 wi g tt wi2 g2 tt2 te vs vs1) Γ k := by
  intro σ H Q G c
  refine h σ H _ G fun J H1 as e1 it ⟨hbig, hs, hk⟩ D n => ?_
  have G1 := G.ext e1
  have nm : ¬ W.mu D := fresh_mu e1.ok n
  have big : ∀ {m : Nat}, m ≤ 100000 → m < sizeLine := fun h => Nat.lt_of_le_of_lt h (by decide)
  let P : List γ → Hp → Prop := fun ys H' => Ext W H1 H' ∧ ∃ us, H' D = some (.lst us) ∧ Dl (den (W.toWc.plus D) H') us ys
  refine turns (J := J) (n := as.length) (fun i H' => P ((as.take i).flatMap f) H') ⟨Ext.new e1.ok n, [], upd_same, .nil⟩ (fun i H' hi ⟨e, _⟩ => it.go i H' e.keep hi) (fun H' ⟨e, _⟩ => it.stop H' e.keep) ?_ ?_
  · rintro i H' x H'' hi ⟨e, ws, hD, hw⟩ hy
    obtain ⟨a, ea, nw, -, dpl⟩ := it.yld i H' x H'' e.keep (fun a m => W.live H' a e.ok m) hi hy
    have da := dpl D _ n hD
    have e2 : Ext W H1 H'' := e.trans (nw.ext e.ok)
    have hD2 : H'' D = some (.lst ws) := nw.gr hD
    have hw2 : Dl (den (W.toWc.plus D) H'') ws ((as.take i).flatMap f) := hw.imp fun _ _ d => Rep.mono (W := W.toWc.plus D) nw.kp d
    have ham : a ∈ as := List.mem_of_getElem? ea
    have htk : (as.take (i + 1)).flatMap f = (as.take i).flatMap f ++ f a := by
      rw [List.take_succ, ea, List.flatMap_append]
      simp
    have hlen : ((as.take (i + 1)).flatMap f).length ≤ 100000 := by
      have e2 : (as.flatMap f).length = ((as.take (i + 1)).flatMap f).length + ((as.drop (i + 1)).flatMap f).length := by
        rw [← List.length_append, ← List.flatMap_append, List.take_append_drop]
      omega
    have kp : Kp (W.toWc.plus D) H1 H'' := fun b o mb z => e2.keep b o (fun z => mb (.inl z)) z
    obtain ⟨js, hjs, tj⟩ := hs _ (Sub.plusO (o := .lst ws) (n := n) (o1 := e1.ok) (w1 := G1.wish)) a ham
    have G2 : GOk (W.plusO D (.lst ws) H1 n e1.ok G1.wish) H'' σ Γ := ⟨⟨e2.ok, hD2⟩, fun b o mb z => e2.keep b o mb z, fun j t hj => by
      obtain ⟨u, h1, h2⟩ := G1.at_ j t hj
      exact ⟨u, h1, Ty.mono kp (t.r.grow D n h2)⟩, G1.len⟩
    refine tj (wipe σ vs) H'' x _ (G2.wipe vs) da fun σ2 Γ2 G3 m2 q2 => ⟨wipe_same m2 (js_in hjs), ?_⟩
    refine q2 σ2 H'' _ G3 fun H3 b e3 ⟨hbf, hbt⟩ => ?_
    have back3 : Ext W H1 H3 := ⟨fun b o mb z => by
      have hne : b ≠ D := fun q => by rw [q, n] at z; cases z
      exact e3.keep b o (fun q => q.elim mb hne) (e2.keep b o mb z), e3.ok.1⟩
    have hD3 : H3 D = some (.lst ws) := e3.ok.2
    have hw3 : Dl (den (W.toWc.plus D) H3) ws ((as.take i).flatMap f) := hw2.imp fun _ _ d => Rep.mono (W := W.toWc.plus D) e3.keep d
    have G3' := G3.ext e3
    cases b with
    | false =>
      show P _ _
      rw [htk, hbf rfl, List.append_nil]
      exact ⟨back3, ws, hD3, hw3⟩
    | true =>
      show wi2 σ2 H3 _
      refine hbt rfl σ2 H3 _ G3' fun J1 H4 bs e4 it2 ⟨p, hf, hmap, turn⟩ => ?_
      have back4 : Ext W H1 H4 := ⟨fun b o mb z => by
        have hne : b ≠ D := fun q => by rw [q, n] at z; cases z
        exact e4.keep b o (fun q => q.elim mb hne) (back3.keep b o mb z), e4.ok.1⟩
      have hD4 : H4 D = some (.lst ws) := e4.ok.2
      have hw4 : Dl (den (W.toWc.plus D) H4) ws ((as.take i).flatMap f) := hw3.imp fun _ _ d => Rep.mono (W := W.toWc.plus D) e4.keep d
      refine turns (J := J1) (n := bs.length) (fun j H' => Kp (W.toWc.plus D) H4 H' ∧ P ((as.take i).flatMap f ++ ((bs.take j).filter p).map hf) H') ⟨fun _ _ _ z => z, back4, ws, hD4, by simpa using hw4⟩ (fun j H' hj ⟨k, _⟩ => it2.go j H' k hj) (fun H' ⟨k, _⟩ => it2.stop H' k) ?_ ?_
      · rintro j H5 y H6 hj ⟨k5, e5, ws5, hD5, hw5⟩ hy2
        obtain ⟨b, eb, nw2, db, -⟩ := it2.yld j H5 y H6 k5 (fun a m => m.elim (fun m => W.live H5 a e5.ok m) fun e => ⟨_, (congrArg H5 e).trans hD5⟩) hj hy2
        have hbm : b ∈ bs := List.mem_of_getElem? eb
        have htk2 : ((bs.take (j + 1)).filter p).map hf = ((bs.take j).filter p).map hf ++ (if p b = true then [hf b] else []) := by
          rw [List.take_succ, eb, List.filter_append, List.map_append]
          congr 1
          cases hpb : p b <;> simp [hpb]
        have hlen5 : ((as.take i).flatMap f ++ ((bs.take j).filter p).map hf).length ≤ 100000 := by
          have h1 : (((bs.take j).filter p).map hf).length ≤ (f a).length := by
            rw [← hmap, List.length_map, List.length_map]
            exact ((List.take_sublist j bs).filter p).length_le
          rw [htk, List.length_append] at hlen
          rw [List.length_append]
          omega
        have e6 : Ext W H1 H6 := e5.trans (nw2.ext e5.ok)
        have hD6 : H6 D = some (.lst ws5) := nw2.gr hD5
        have k6 : Kp (W.toWc.plus D) H4 H6 := fun b o mb z => nw2.kp b o mb (k5 b o mb z)
        have hw6 : Dl (den (W.toWc.plus D) H6) ws5 ((as.take i).flatMap f ++ ((bs.take j).filter p).map hf) := hw5.imp fun _ _ d => Rep.mono (W := W.toWc.plus D) nw2.kp d
        obtain ⟨js2, hjs2, tj2⟩ := turn _ (Sub.plusO (o := .lst ws5) (n := n) (o1 := e1.ok) (w1 := G1.wish)) b hbm
        have G4 := G3'.ext e4
        have G6 : GOk (W.plusO D (.lst ws5) H1 n e1.ok G1.wish) H6 σ2 Γ2 := ⟨⟨e6.ok, hD6⟩, fun b o mb z => e6.keep b o mb z, fun q t hq => by
          obtain ⟨u, h1, h2⟩ := G4.at_ q t hq
          exact ⟨u, h1, Ty.mono (W := W.toWc.plus D) k6 h2⟩, G4.len⟩
        refine tj2 (wipe σ2 vs1) H6 y _ (G6.wipe vs1) db fun σ3 Γ3 G7 m3 q3 => ⟨wipe_same m3 (js_in hjs2), ?_⟩
        refine q3 σ3 H6 _ G7 fun H7 b' e7 ⟨hb, hte⟩ => ?_
        have e7' : Ext W H1 H7 := ⟨fun b o mb z => by
          have hne : b ≠ D := fun q => by rw [q, n] at z; cases z
          exact e7.keep b o (fun q => q.elim mb hne) (e6.keep b o mb z), e7.ok.1⟩
        cases b' with
        | false =>
          show Kp _ _ _ ∧ P _ _
          rw [htk2, if_neg (by rw [← hb]; decide), List.append_nil]
          exact ⟨fun b o mb z => e7.keep b o mb (k6 b o mb z), e7', ws5, e7.ok.2, hw6.imp fun _ _ d => Rep.mono (W := W.toWc.plus D) e7.keep d⟩
        | true =>
          show te σ3 H7 _
          refine hte rfl σ3 H7 _ (G7.ext e7) fun yv H8 c0 e8 hc0 hcb => ⟨ws5, e8.ok.2, big (by rw [hw5.length]; exact hlen5), ?_⟩
          have e8' : Ext W H1 H8 := ⟨fun b o mb z => by
            have hne : b ≠ D := fun q => by rw [q, n] at z; cases z
            exact e8.keep b o (fun q => q.elim mb hne) (e7'.keep b o mb z), e8.ok.1⟩
          have kU : Kp (W.toWc.plus D) H8 (upd H8 D (.lst (ws5 ++ [yv]))) := fun b o mb z => by
            have hne : b ≠ D := fun q => mb (.inr q)
            rw [upd_ne hne]
            exact z
          refine ⟨fun b o mb z => kU b o mb (e8.keep b o mb (e7.keep b o mb (k6 b o mb z))), ⟨fun b o mb z => ?_, W.st _ _ _ e8'.ok nm⟩, ws5 ++ [yv], upd_same, ?_⟩
          · have hne : b ≠ D := fun q => by rw [q, n] at z; cases z
            rw [upd_ne hne]
            exact e8'.keep b o mb z
          · rw [htk2, if_pos hb.symm, ← List.append_assoc]
            refine Dl.append (hw6.imp fun _ _ d => Rep.mono (W := W.toWc.plus D) kU (Rep.mono (W := W.toWc.plus D) e8.keep (Rep.mono (W := W.toWc.plus D) e7.keep d))) (.cons ?_ .nil)
            rw [← hcb]
            exact Rep.mono (W := W.toWc.plus D) kU hc0
      · rintro H' ⟨k', p'⟩
        rw [List.take_length, hmap, ← htk] at p'
        exact p'
  · rintro H' ⟨e, us, hD, hw⟩
    rw [List.take_length] at hw
    exact c D H' us (as.flatMap f) (fresh_back e1.ok e1 n) (e1.trans e) hD hw hk
end
/-! ### xs += ys -/
section
variable {W : Wd} {F : Hp} {L : Own} {Γ : Gam} {te : TE} {R : PoM}
theorem set_same {σ : L2.St} {i : Nat} {v : Option V} (h : σ[i]? = some v) : σ.set i v = σ := by
  refine List.ext_getElem? fun j => ?_
  rw [List.getElem?_set]
  by_cases e : i = j
  · subst e
    rw [if_pos rfl, if_pos (List.getElem?_eq_some_iff.mp h).1, h]
  · rw [if_neg e]
theorem sxm_ext {α : Type} {rα : Rep α} {i : Nat} (k : Nat) {p : Addr} {vs : List V} {as : List α} (hk : L[k]? = some (p, vs)) (hi : Γ[i]? = some (some (T (Ol.mk p vs as))))
    (h : ∀ Wo, OwnW W L Wo → EvK Wo te Γ fun bs : List α => as.length + bs.length ≤ 100000 ∧ ∀ ws, R.nx (L.set k (p, vs ++ ws)) (Γ.set i (some (T (Ol.mk p (vs ++ ws) (as ++ bs)))))) : SxM W F (tAug i te rExt2) L Γ R := fun D σ H oF nF wF nd G O => by
  obtain ⟨h1, h2⟩ := ol_at G hi
  refine ⟨_, h1, ?_⟩
  refine h _ (own_w wF) σ H _ G fun v H1 bs e1 ⟨q, ws, hv, hq, hd⟩ ⟨hl, z⟩ => ?_
  subst hv
  have G1 := G.ext e1
  refine ⟨p, q, vs, ws, rfl, rfl, G1.ok.2 _ (List.mem_of_getElem? hk), hq.2, Nat.le_trans (by rw [h2.length, hd.length]; exact hl) (by decide : 100000 ≤ sizeLine), ?_⟩
  show D.nx (σ.set i (some (.ref p))) _
  rw [set_same h1]
  exact own_put nd G1 (O.step G1.ok.1 (own_stp e1)) hk h1 (Dl.append (h2.imp fun _ _ d => Rep.mono e1.keep d) hd) (z ws)
end
/-! ### list + list as a new list; x is not None -/
section
variable {W : Wd} {Γ : Gam} {te ta tb : TE} {K : PySem.W.Frag}
theorem evF_cat {α : Type} {rα : Rep α} {k : List α → Prop} (h : EvK W ta Γ fun as : List α => EvK W tb Γ fun bs : List α => as.length + bs.length ≤ 100000 ∧ k (as ++ bs)) : EvF W (tOp rCat ta tb) Γ k := fun σ H Q E c =>
  h σ H _ E fun x H1 as e1 dx h2 => h2 σ H1 _ (E.ext e1) fun y H2 bs e2 dy ⟨hl, z⟩ => by
    obtain ⟨p, vs, rfl, hp, hd⟩ := Rep.mono (α := List α) e2.keep dx
    obtain ⟨q, us, rfl, hq, hd2⟩ := dy
    refine ⟨p, q, vs, us, rfl, rfl, hp.2, hq.2, Nat.le_trans (by rw [hd.length, hd2.length]; exact hl) (by decide : 100000 ≤ sizeLine), fun r hr => ?_⟩
    have e3 := Ext.new (o := .lst (vs ++ us)) e2.ok hr
    have kp : Kp (W.toWc.plus r) H2 (upd H2 r (.lst (vs ++ us))) := fun b o m z => by rw [upd_ne (ne_of_none z hr)]; exact z
    exact c r _ (vs ++ us) (as ++ bs) (fresh_back e2.ok (e1.trans e2) hr) ((e1.trans e2).trans e3) upd_same (Dl.append (hd.imp fun _ _ d => Rep.mono (W := W.toWc.plus r) kp (Rep.grow r hr d)) (hd2.imp fun _ _ d => Rep.mono (W := W.toWc.plus r) kp (Rep.grow r hr d))) z
/-- data that is not None -/
class NotNon (α : Type) [Rep α] : Prop where
  no : ∀ {W : Wc} {H : Hp} {v : V} {a : α}, den W H v a → v ≠ .non
instance : NotNon Int := ⟨fun h e => by have h : _ = V.int _ := h; rw [h] at e; cases e⟩
instance : NotNon Str := ⟨fun h e => by have h : _ = V.str _ := h; rw [h] at e; cases e⟩
theorem ev_notN {α : Type} {rα : Rep α} [NotNon α] {k : Bool → Prop} (h : EvK W te Γ fun _ : α => k true) : EvK W (tOp (fun x y H Q => y = .non ∧ Q (.bl (!decide (x = .non))) H) te (tC .non)) Γ k := fun σ H Q E c =>
  h σ H _ E fun v H1 a e1 d z => ⟨rfl, by rw [decide_eq_false (NotNon.no d)]; exact c _ H1 true e1 rfl z⟩
theorem ev_notN0 {k : Bool → Prop} (h : EvK W te Γ fun _ : Unit => k false) : EvK W (tOp (fun x y H Q => y = .non ∧ Q (.bl (!decide (x = .non))) H) te (tC .non)) Γ k := fun σ H Q E c =>
  h σ H _ E fun v H1 a e1 (d : v = .non) z => ⟨rfl, by rw [decide_eq_true d]; exact c _ H1 false e1 rfl z⟩
end
theorem pi_enumK {X : Cx} {e : Expr} {ta : TA} {p pos tpos : Pos} {elts : List Expr} {kk : Nat} (K : PySem.W.Frag) (hg : Gl X "enumerate") (hm : X.mg "enumerate" = none) (ha : PA X [e] ta) (hs : starEach [e] X.env = [(false, eval e X.env)] := by rfl) (hK : X.K = K := by rfl) :
    PI X (.Tuple elts kk tpos) (.Call (.Name "enumerate" p) [e] [] pos) (iEnum K ta) := by
  subst hK
  exact pi_enum hg hm ha hs
theorem ev_ixTv {α : Type} {rα : Rep α} {K : PySem.W.Frag} {W : Wd} {Γ : Gam} {ta tb : TE} {k : α → Prop} (hK : W.B.K = K) (h : EvK W ta Γ fun p : α × α => EvK W tb Γ fun i : Int => (i = 0 ∧ k p.1) ∨ (i = 1 ∧ k p.2)) : EvK W (tOp (rIxT K) ta tb) Γ k := by
  subst hK
  refine ev_two (h.imp fun a ha => ha.imp fun i hi x y H Q o dx dy c => ?_)
  obtain ⟨p, v1, v2, hv, s, d1, d2⟩ := dx
  rcases hi with ⟨rfl, z⟩ | ⟨rfl, z⟩
  · exact ⟨p, _, 0, v1, hv, dy, s.sq, rfl, c _ H _ (Ext.refl o) d1 z⟩
  · exact ⟨p, _, 1, v2, hv, dy, s.sq, rfl, c _ H _ (Ext.refl o) d2 z⟩
section
variable {W : Wd} {Γ : Gam} {ta : TE} {K : PySem.W.Frag}
theorem ev_ixT3a {α β γ : Type} {rα : Rep α} {rβ : Rep β} {rγ : Rep γ} {k : α → Prop} (hK : W.B.K = K) (h : EvK W ta Γ fun p : T3 α β γ => k p.a) : EvK W (tOp (rIxT K) ta (tC (.int 0))) Γ k := by
  subst hK
  refine fun σ H Q E c => h σ H _ E fun v H1 a e1 ⟨p, x, y, z, hv, s, d1, d2, d3⟩ q => ?_
  exact ⟨p, _, 0, x, hv, rfl, s.sq, rfl, c _ H1 _ e1 d1 q⟩
theorem ev_ixT3b {α β γ : Type} {rα : Rep α} {rβ : Rep β} {rγ : Rep γ} {k : β → Prop} (hK : W.B.K = K) (h : EvK W ta Γ fun p : T3 α β γ => k p.b) : EvK W (tOp (rIxT K) ta (tC (.int 1))) Γ k := by
  subst hK
  refine fun σ H Q E c => h σ H _ E fun v H1 a e1 ⟨p, x, y, z, hv, s, d1, d2, d3⟩ q => ?_
  exact ⟨p, _, 1, y, hv, rfl, s.sq, rfl, c _ H1 _ e1 d2 q⟩
end
end G
set_option Elab.async false
set_option linter.all false
set_option maxRecDepth 100000
set_option maxHeartbeats 2000000
namespace G
open PySem PySem.Spec PyProof.Rows L2 StX
/-! ### dicts with texts as their keys -/
structure Dc (β : Type) where
  l : List (Str × β)
inductive Dk {β : Type} (f : V → β → Prop) : List (Key × V) → List (Str × β) → Prop
  | nil : Dk f [] []
  | cons {k : Str} {v : V} {b : β} {r : List (Key × V)} {s : List (Str × β)} : f v b → Dk f r s → Dk f ((.inr k, v) :: r) ((k, b) :: s)
theorem Dk.imp {β : Type} {f g : V → β → Prop} (h : ∀ v b, f v b → g v b) : ∀ {kvs : List (Key × V)} {l : List (Str × β)}, Dk f kvs l → Dk g kvs l
  | _, _, .nil => .nil
  | _, _, .cons a r => .cons (h _ _ a) (r.imp h)
theorem Dk.length {β : Type} {f : V → β → Prop} : ∀ {kvs : List (Key × V)} {l : List (Str × β)}, Dk f kvs l → kvs.length = l.length
  | _, _, .nil => rfl
  | _, _, .cons _ r => congrArg (· + 1) r.length
def getDc {β : Type} (l : List (Str × β)) (k : Str) : Option β := (l.find? fun e => decide (e.1 = k)).map (·.2)
def putDc {β : Type} (l : List (Str × β)) (k : Str) (b : β) : List (Str × β) := if (l.any fun e => decide (e.1 = k)) = true then l.map (fun e => if e.1 = k then (e.1, b) else e) else l ++ [(k, b)]
theorem inr_iff {a k : Str} : ((Sum.inr a : Key) = Sum.inr k) ↔ a = k := ⟨fun h => by injection h, fun h => by rw [h]⟩
theorem Dk.get {β : Type} {f : V → β → Prop} (k : Str) : ∀ {kvs : List (Key × V)} {l : List (Str × β)}, Dk f kvs l → (valV kvs (Sum.inr k : Key) = none ∧ getDc l k = none) ∨ ∃ v b, valV kvs (Sum.inr k : Key) = some v ∧ getDc l k = some b ∧ f v b
  | _, _, .nil => .inl ⟨rfl, rfl⟩
  | _, _, .cons (k := a) (v := v) (b := b) (r := r) (s := s) h t => by
    by_cases e : a = k
    · exact .inr ⟨v, b, valV_pos (p := ((Sum.inr a : Key), v)) (inr_iff.mpr e), by unfold getDc; rw [List.find?_cons_of_pos (by exact decide_eq_true e)]; rfl, h⟩
    · have e1 : valV (((Sum.inr a : Key), v) :: r) (Sum.inr k : Key) = valV r (Sum.inr k : Key) := valV_neg (p := ((Sum.inr a : Key), v)) (fun z => e (inr_iff.mp z))
      have e2 : getDc ((a, b) :: s) k = getDc s k := by unfold getDc; rw [List.find?_cons_of_neg (by rw [decide_eq_true_iff]; exact e)]
      rw [e1, e2]
      exact t.get k
theorem Dk.any {β : Type} {f : V → β → Prop} (k : Str) : ∀ {kvs : List (Key × V)} {l : List (Str × β)}, Dk f kvs l → (kvs.any fun kv => decide (kv.1 = (.inr k : Key))) = l.any fun e => decide (e.1 = k)
  | _, _, .nil => rfl
  | _, _, .cons (k := a) _ t => by
    rw [List.any_cons, List.any_cons, t.any k]
    congr 1
    exact decide_eq_decide.mpr inr_iff
theorem Dk.map {β : Type} {f : V → β → Prop} (k : Str) {v : V} {b : β} (h : f v b) : ∀ {kvs : List (Key × V)} {l : List (Str × β)}, Dk f kvs l → Dk f (kvs.map fun kv => if kv.1 = (.inr k : Key) then (kv.1, v) else kv) (l.map fun e => if e.1 = k then (e.1, b) else e)
  | _, _, .nil => .nil
  | _, _, .cons (k := a) h2 t => by
    rw [List.map_cons, List.map_cons]
    by_cases e : a = k
    · rw [if_pos (inr_iff.mpr e), if_pos e]
      exact .cons h (t.map k h)
    · rw [if_neg (fun z => e (inr_iff.mp z)), if_neg e]
      exact .cons h2 (t.map k h)
theorem Dk.snoc {β : Type} {f : V → β → Prop} {k : Str} {v : V} {b : β} (h : f v b) : ∀ {kvs : List (Key × V)} {l : List (Str × β)}, Dk f kvs l → Dk f (kvs ++ [(.inr k, v)]) (l ++ [(k, b)])
  | _, _, .nil => .cons h .nil
  | _, _, .cons h2 t => .cons h2 (t.snoc h)
theorem Dk.put {β : Type} {f : V → β → Prop} {k : Str} {v : V} {b : β} (h : f v b) {kvs : List (Key × V)} {l : List (Str × β)} (t : Dk f kvs l) : Dk f (putK kvs (.inr k) v) (putDc l k b) := by
  unfold putK putDc
  rw [t.any k]
  split
  · exact t.map k h
  · exact t.snoc h
instance {β : Type} [Rep β] : Rep (Dc β) :=
  ⟨fun W H v d => ∃ p kvs, v = .ref p ∧ (¬ W.mu p ∧ H p = some (.dK kvs)) ∧ Dk (den W H) kvs d.l,
   fun e ⟨p, kvs, hv, hp, h⟩ => ⟨p, kvs, hv, ⟨hp.1, e _ _ hp.1 hp.2⟩, h.imp fun _ _ d => Rep.mono e d⟩,
   fun D n ⟨p, kvs, hv, hp, h⟩ => ⟨p, kvs, hv, ⟨mu_grow n hp.1 hp.2, hp.2⟩, h.imp fun _ _ d => Rep.grow D n d⟩,
   fun D ⟨p, kvs, hv, hp, h⟩ => ⟨p, kvs, hv, ⟨fun z => hp.1 (.inl z), hp.2⟩, h.imp fun _ _ d => Rep.shrink D d⟩⟩
section
variable {W : Wd} {Γ : Gam} {td ty : TE}
theorem dget_ex {β : Type} [Rep β] {W : Wc} {H : Hp} {v : V} {d : Dc β} (k : Str) (h : den W H v d) : ∃ p o, v = .ref p ∧ DGet H p (.str k) o ∧ ((o = none ∧ getDc d.l k = none) ∨ ∃ u b, o = some u ∧ getDc d.l k = some b ∧ den W H u b) := by
  obtain ⟨p, kvs, hv, hp, hd⟩ := h
  refine ⟨p, _, hv, .inl ⟨kvs, .inr k, .inl hp.2, rfl, rfl⟩, ?_⟩
  rcases hd.get k with ⟨e1, e2⟩ | ⟨u, b, e1, e2, e3⟩
  · exact .inl ⟨e1, e2⟩
  · exact .inr ⟨u, b, e1, e2, e3⟩
theorem ev_din {β : Type} {rβ : Rep β} {k : Bool → Prop} (h : EvK W ty Γ fun s : Str => EvK W td Γ fun d : Dc β => k (getDc d.l s).isSome) : EvK W (tDIn ty td) Γ k := fun σ H Q E c =>
  h σ H _ E fun x H1 s e1 dx h2 => h2 σ H1 _ (E.ext e1) fun y H2 d e2 dy z => by
    obtain ⟨p, o, hv, hg, ho⟩ := dget_ex s dy
    have dx : x = .str s := dx
    refine ⟨p, o, hv, by rw [dx]; exact hg, ?_⟩
    have : o.isSome = (getDc d.l s).isSome := by
      rcases ho with ⟨e3, e4⟩ | ⟨u, b, e3, e4, _⟩
      · rw [e3, e4]; rfl
      · rw [e3, e4]; rfl
    rw [this]
    exact c _ H2 _ (e1.trans e2) rfl z
theorem ev_dnotin {β : Type} {rβ : Rep β} {k : Bool → Prop} (h : EvK W ty Γ fun s : Str => EvK W td Γ fun d : Dc β => k (!(getDc d.l s).isSome)) : EvK W (tDNotIn ty td) Γ k := fun σ H Q E c =>
  h σ H _ E fun x H1 s e1 dx h2 => h2 σ H1 _ (E.ext e1) fun y H2 d e2 dy z => by
    obtain ⟨p, o, hv, hg, ho⟩ := dget_ex s dy
    have dx : x = .str s := dx
    refine ⟨p, o, hv, by rw [dx]; exact hg, ?_⟩
    have : o.isSome = (getDc d.l s).isSome := by
      rcases ho with ⟨e3, e4⟩ | ⟨u, b, e3, e4, _⟩
      · rw [e3, e4]; rfl
      · rw [e3, e4]; rfl
    rw [this]
    exact c _ H2 _ (e1.trans e2) rfl z
theorem ev_dget {β : Type} {rβ : Rep β} {k : β → Prop} (h : EvK W td Γ fun d : Dc β => EvK W ty Γ fun s : Str => ∃ b, getDc d.l s = some b ∧ k b) : EvK W (tDGet td ty) Γ k := fun σ H Q E c =>
  h σ H _ E fun x H1 d e1 dx h2 => h2 σ H1 _ (E.ext e1) fun y H2 s e2 dy ⟨b, hb, z⟩ => by
    obtain ⟨p, o, hv, hg, ho⟩ := dget_ex s (Rep.mono (α := Dc β) e2.keep dx)
    have dy : y = .str s := dy
    rcases ho with ⟨_, e4⟩ | ⟨u, b', e3, e4, e5⟩
    · rw [hb] at e4; cases e4
    · rw [hb] at e4
      cases e4
      exact ⟨p, u, hv, by rw [dy, ← e3]; exact hg, c _ H2 _ (e1.trans e2) e5 z⟩
end
/-! ### own things of any kind that change: lists, dicts -/
abbrev OwnH := List (Addr × HO)
abbrev keysH (L : OwnH) : List Addr := L.map (·.1)
def Wd.ownH (W : Wd) (F : Hp) (L : OwnH) (oF : W.ok F) (nF : ∀ k ∈ keysH L, F k = none) : Wd where
  toWc := W.toWc.plusL (keysH L)
  ok := fun H => W.ok H ∧ ∀ x ∈ L, H x.1 = some x.2
  live := fun H a ⟨h, e⟩ m => by
    rcases plusL_mu.mp m with m | m
    · exact W.live H a h m
    · obtain ⟨x, hx, rfl⟩ := List.mem_map.mp m
      exact ⟨_, e x hx⟩
  st := fun H p o ⟨h, e⟩ m => ⟨W.st H p o h fun z => m (plusL_mu.mpr (.inl z)), fun x hx => by
    have hne : x.1 ≠ p := fun z => m (plusL_mu.mpr (.inr (by rw [← z]; exact List.mem_map.mpr ⟨x, hx, rfl⟩)))
    rw [upd_ne hne]
    exact e x hx⟩
  wish := fun H => Kp W.toWc F H
  wst := fun H H' k _ w a o m e => k a o (fun z => (plusL_mu.mp z).elim m fun z => by rw [nF a z] at e; cases e) (w a o m e)
  hasbox := fun H b ⟨h, _⟩ hb => W.hasbox H b h (by rw [plusL_box] at hb; exact hb)
  boxset := fun H b c i p s i' p' s' ⟨h, e⟩ hb q h1 h2 => by
    rw [plusL_box] at hb
    refine ⟨W.boxset H b c i p s i' p' s' h hb q h1 h2, fun x hx => ?_⟩
    have z : x.1 ≠ b := fun z => by
      have h3 := nF x.1 (List.mem_map.mpr ⟨x, hx, rfl⟩)
      rw [z] at h3
      exact fresh_mu oF h3 (W.boxmu b hb)
    rw [upd_ne z]
    exact e x hx
  boxmu := fun b hb => plusL_mu.mpr (.inl (W.boxmu b (by rw [plusL_box] at hb; exact hb)))
  oke := fun H H' ⟨h, e⟩ k => ⟨W.oke H H' h k, fun x hx => k _ _ (e x hx)⟩
/-- the world Wo is W with the own lists L kept apart -/
structure OwnHW (W : Wd) (L : OwnH) (Wo : Wd) : Prop where
  B : Wo.B = W.B
  pin : ∀ H, Wo.ok H → ∀ x ∈ L, H x.1 = some x.2
  err : ∀ (E : XK) (x : Xn → Prop), (∀ H', W.ok H' → W.wish H' → XOk W H' E x) → ∀ H', Wo.ok H' → Wo.wish H' → XOk Wo H' E x
section
variable {W : Wd} {F : Hp} {L L' : OwnH} {oF : W.ok F} {nF : ∀ k ∈ keysH L, F k = none}
theorem ownH_ext {H H' : Hp} (o : (W.ownH F L oF nF).ok H) (e : Ext (W.ownH F L oF nF) H H') : Ext W H H' := ⟨fun a u m z => by
  by_cases h : a ∈ keysH L
  · obtain ⟨x, hx, rfl⟩ := List.mem_map.mp h
    have h1 := o.2 x hx
    have h2 := e.ok.2 x hx
    rw [h1] at z
    cases z
    exact h2
  · exact e.keep a u (fun z => (plusL_mu.mp z).elim m h) z, e.ok.1⟩
theorem xdenLH {H : Hp} {d : Option Addr} {fs : List (Str × Fv)} {ks : List Addr} (h : xden (W.toWc.plusL ks) H d fs) : xden W.toWc H d fs :=
  h.imp (fun h => h) fun ⟨dd, vs, h1, h2, h3, h4⟩ => ⟨dd, vs, h1, fun z => h2 (plusL_mu.mpr (.inl z)), h3, h4.imp fun _ _ z => fshrinkL z⟩
theorem ownH_w (wF : W.wish F) : OwnHW W L (W.ownH F L oF nF) := by
  refine ⟨plusL_B, fun H o x hx => o.2 x hx, fun E x h H' o w n d H2 e xd xn => ?_⟩
  have wH : W.wish H' := W.wst F H' w o.1 wF
  have := h H' o.1 wH n d H2 (ownH_ext o e) (xdenLH xd) xn
  have hB : (W.ownH F L oF nF).B = W.B := plusL_B
  rw [hB]
  exact this
end
/-- from L at H to L' at H' -/
def StpH (W : Wd) (L : OwnH) (H : Hp) (L' : OwnH) (H' : Hp) : Prop := Kp (W.toWc.plusL (keysH L)) H H' ∧ ∀ k ∈ keysH L', k ∈ keysH L ∨ H k = none
theorem StpH.refl {W : Wd} {L : OwnH} {H : Hp} : StpH W L H L H := ⟨fun _ _ _ z => z, fun _ h => .inl h⟩
theorem StpH.trans {W : Wd} {L L1 L2 : OwnH} {H H1 H2 : Hp} (o1 : W.ok H1) (a : StpH W L H L1 H1) (b : StpH W L1 H1 L2 H2) : StpH W L H L2 H2 := by
  refine ⟨fun x o m z => b.1 x o (fun q => ?_) (a.1 x o m z), fun k hk => ?_⟩
  · rcases plusL_mu.mp q with q | q
    · exact m (plusL_mu.mpr (.inl q))
    · rcases a.2 x q with q | q
      · exact m (plusL_mu.mpr (.inr q))
      · rw [q] at z; cases z
  · rcases b.2 k hk with h | h
    · exact a.2 k h
    · by_cases hm : k ∈ keysH L
      · exact .inl hm
      · refine .inr ?_
        cases q : H k with
        | none => rfl
        | some u =>
          by_cases hw : W.mu k
          · obtain ⟨o, e⟩ := W.live H1 k o1 hw
            rw [h] at e; cases e
          · rw [a.1 k u (fun z => (plusL_mu.mp z).elim hw hm) q] at h
            cases h
structure PoH where
  nx : OwnH → Gam → Prop
  rt : Ty → Prop
  bk : OwnH → Gam → Prop := fun _ _ => False
  ct : OwnH → Gam → Prop := fun _ _ => False
structure EOkH (W : Wd) (F : Hp) (L : OwnH) (H : Hp) (D : Ends) (R : PoH) : Prop where
  nx : ∀ L' oF nF σ' H' Γ', StpH W L H L' H' → (keysH L').Nodup → GOk (W.ownH F L' oF nF) H' σ' Γ' → R.nx L' Γ' → D.nx σ' H'
  rt : ∀ v H' (t : Ty), Ext W F H' → t.den W H' v → R.rt t → D.rt v H'
  bk : ∀ L' oF nF σ' H' Γ', StpH W L H L' H' → (keysH L').Nodup → GOk (W.ownH F L' oF nF) H' σ' Γ' → R.bk L' Γ' → D.bk σ' H'
  ct : ∀ L' oF nF σ' H' Γ', StpH W L H L' H' → (keysH L').Nodup → GOk (W.ownH F L' oF nF) H' σ' Γ' → R.ct L' Γ' → D.ct σ' H'
theorem EOkH.step {W : Wd} {F : Hp} {L L1 : OwnH} {H H1 : Hp} {D : Ends} {R : PoH} (h : EOkH W F L H D R) (o1 : W.ok H1) (s : StpH W L H L1 H1) : EOkH W F L1 H1 D R :=
  ⟨fun L' oF nF σ' H' Γ' s' => h.nx L' oF nF σ' H' Γ' (s.trans o1 s'), h.rt, fun L' oF nF σ' H' Γ' s' => h.bk L' oF nF σ' H' Γ' (s.trans o1 s'), fun L' oF nF σ' H' Γ' s' => h.ct L' oF nF σ' H' Γ' (s.trans o1 s')⟩
/-- a statement in a def with own lists L; F: the heap ahead of the first of them -/
def SxH (W : Wd) (F : Hp) (t : TS) (L : OwnH) (Γ : Gam) (R : PoH) : Prop :=
  ∀ D σ H oF nF, W.wish F → (keysH L).Nodup → GOk (W.ownH F L oF nF) H σ Γ → EOkH W F L H D R → t D σ H
theorem ownH_gok_nil {W : Wd} {F H : Hp} {σ : L2.St} {Γ : Gam} {oF : W.ok F} {nF : ∀ k ∈ keysH [], F k = none} (k : Kp W.toWc F H) (G : GOk W H σ Γ) : GOk (W.ownH F [] oF nF) H σ Γ := ⟨⟨G.ok, fun _ h => nomatch h⟩, k, G.at_, G.len⟩
theorem ownH_gok_out {W : Wd} {F H : Hp} {L : OwnH} {σ : L2.St} {Γ : Gam} {oF : W.ok F} {nF : ∀ k ∈ keysH L, F k = none} (wF : W.wish F) (G : GOk (W.ownH F L oF nF) H σ Γ) : GOk W H σ Γ :=
  ⟨G.ok.1, W.wst F H G.wish G.ok.1 wF, fun i t h => let ⟨v, h1, h2⟩ := G.at_ i t h; ⟨v, h1, shrinkL h2⟩, G.len⟩
theorem ownH_stp {W : Wd} {F H H' : Hp} {L : OwnH} {oF : W.ok F} {nF : ∀ k ∈ keysH L, F k = none} (e : Ext (W.ownH F L oF nF) H H') : StpH W L H L H' := ⟨e.keep, fun _ h => .inl h⟩
section
variable {W : Wd} {F : Hp} {L : OwnH} {Γ : Gam} {ta tb te : TE} {tt : TT} {t u : TS} {R : PoH} {g : TG}
/-- into the part with own lists -/
theorem sx_ownH {R : Po} (h : ∀ F, SxH W F t [] Γ { nx := fun _ => R.nx, rt := R.rt, bk := fun _ => R.bk, ct := fun _ => R.ct }) : Sx W t Γ R := fun D σ H G O =>
  h H D σ H G.ok (fun _ z => nomatch z) G.wish .nil (ownH_gok_nil (fun _ _ _ z => z) G)
    ⟨fun L' oF nF σ' H' Γ' s _ G' q => O.nx σ' H' Γ' ⟨G'.wish, G'.ok.1⟩ (ownH_gok_out G.wish G') q, fun v H' t e d q => O.rt v H' t e d q,
     fun L' oF nF σ' H' Γ' s _ G' q => O.bk σ' H' Γ' ⟨G'.wish, G'.ok.1⟩ (ownH_gok_out G.wish G') q, fun L' oF nF σ' H' Γ' s _ G' q => O.ct σ' H' Γ' ⟨G'.wish, G'.ok.1⟩ (ownH_gok_out G.wish G') q⟩
theorem eokH_un {D : Ends} {H : Hp} {oF : W.ok F} {nF : ∀ k ∈ keysH L, F k = none} (nd : (keysH L).Nodup) (O : EOkH W F L H D R) (wk : Kp W.toWc F H) (o : (W.ownH F L oF nF).ok H) : EOk (W.ownH F L oF nF) H D { nx := R.nx L, rt := R.rt, bk := R.bk L, ct := R.ct L } :=
  ⟨fun σ' H' Γ' e G q => O.nx L oF nF σ' H' Γ' (ownH_stp e) nd G q, fun v H' t e d q => O.rt v H' t (Ext.trans (W := W) ⟨wk, o.1⟩ (ownH_ext o e)) (shrinkL d) q,
   fun σ' H' Γ' e G q => O.bk L oF nF σ' H' Γ' (ownH_stp e) nd G q, fun σ' H' Γ' e G q => O.ct L oF nF σ' H' Γ' (ownH_stp e) nd G q⟩
/-- a statement that leaves the own lists -/
theorem sxh_pure (h : ∀ Wo, OwnHW W L Wo → Sx Wo t Γ { nx := R.nx L, rt := R.rt, bk := R.bk L, ct := R.ct L }) : SxH W F t L Γ R := fun D σ H oF nF wF nd G O =>
  h _ (ownH_w wF) D σ H G (eokH_un nd O G.wish G.ok)
theorem sxh_seq (h : SxH W F t L Γ { R with nx := fun L' Γ' => SxH W F u L' Γ' R }) : SxH W F (tSeq t u) L Γ R := fun D σ H oF nF wF nd G O =>
  h _ σ H oF nF wF nd G ⟨fun L' oF nF σ' H' Γ' s nd' G' q => q D σ' H' oF nF wF nd' G' (O.step G'.ok.1 s), O.rt, O.bk, O.ct⟩
theorem SxH.imp {R' : PoH} (h : SxH W F t L Γ R') (n : ∀ L Γ', R'.nx L Γ' → R.nx L Γ') (r : ∀ v, R'.rt v → R.rt v) (b : ∀ L Γ', R'.bk L Γ' → R.bk L Γ') (c : ∀ L Γ', R'.ct L Γ' → R.ct L Γ') : SxH W F t L Γ R := fun D σ H oF nF wF nd G O =>
  h D σ H oF nF wF nd G ⟨fun L' oF nF σ' H' Γ' s nd' G' q => O.nx L' oF nF σ' H' Γ' s nd' G' (n _ _ q), fun v H' t e d q => O.rt v H' t e d (r _ q), fun L' oF nF σ' H' Γ' s nd' G' q => O.bk L' oF nF σ' H' Γ' s nd' G' (b _ _ q), fun L' oF nF σ' H' Γ' s nd' G' q => O.ct L' oF nF σ' H' Γ' s nd' G' (c _ _ q)⟩
theorem sxh_seqI (I : OwnH → Gam → Prop) (h : SxH W F t L Γ { R with nx := I }) (k : ∀ L' Γ', I L' Γ' → SxH W F u L' Γ' R) : SxH W F (tSeq t u) L Γ R := sxh_seq (h.imp k (fun _ q => q) (fun _ _ q => q) fun _ _ q => q)
theorem sxh_if (h : ∀ Wo, OwnHW W L Wo → EvT Wo tt Γ fun b => (b = true → SxH W F t L Γ R) ∧ (b = false → SxH W F u L Γ R)) : SxH W F (tIfS tt t u) L Γ R := fun D σ H oF nF wF nd G O =>
  h _ (ownH_w wF) σ H _ G fun H1 b e1 ⟨h1, h2⟩ => by
    have G1 := G.ext e1
    cases b with
    | true => exact h1 rfl D σ H1 oF nF wF nd G1 (O.step G1.ok.1 (ownH_stp e1))
    | false => exact h2 rfl D σ H1 oF nF wF nd G1 (O.step G1.ok.1 (ownH_stp e1))
theorem sxh_next (q : R.nx L Γ) : SxH W F tNext L Γ R := sxh_pure fun Wo _ => sx_next q
theorem fresh_FH {H : Hp} {p : Addr} (oH : W.ok H) (wk : Kp W.toWc F H) (n : H p = none) : F p = none := by
  cases q : F p with
  | none => rfl
  | some u =>
    rw [wk p u (fresh_mu oH n) q] at n
    cases n

/-- an own dict -/
structure Od (β : Type) where
  p : Addr
  kvs : List (Key × V)
  ds : List (Str × β)
instance {β : Type} [Rep β] : Rep (Od β) :=
  ⟨fun W H v a => v = .ref a.p ∧ Dk (den W H) a.kvs a.ds, fun e h => ⟨h.1, h.2.imp fun _ _ d => Rep.mono e d⟩, fun D n h => ⟨h.1, h.2.imp fun _ _ d => Rep.grow D n d⟩, fun D h => ⟨h.1, h.2.imp fun _ _ d => Rep.shrink D d⟩⟩
theorem keysH_set {k : Nat} {p : Addr} {o o' : HO} (h : L[k]? = some (p, o)) : keysH (L.set k (p, o')) = keysH L := by
  refine List.ext_getElem? fun i => ?_
  rw [List.getElem?_map, List.getElem?_map, List.getElem?_set]
  by_cases e : k = i
  · subst e
    rw [if_pos rfl]
    have hl : k < L.length := (List.getElem?_eq_some_iff.mp h).1
    rw [if_pos hl, h]
    rfl
  · rw [if_neg e]
/-- an own thing changes at its place -/
theorem ownH_put {H : Hp} {σ : L2.St} {D : Ends} {oF : W.ok F} {nF : ∀ k ∈ keysH L, F k = none} {k i : Nat} {p : Addr} {o o' : HO} (t : Ty) (nd : (keysH L).Nodup) (G : GOk (W.ownH F L oF nF) H σ Γ) (O : EOkH W F L H D R)
    (hk : L[k]? = some (p, o)) (hi : σ[i]? = some (some (.ref p))) (hb : Kp (W.toWc.plusL (keysH L)) H (upd H p o') → t.den (W.toWc.plusL (keysH L)) (upd H p o') (.ref p)) (q : R.nx (L.set k (p, o')) (Γ.set i (some t))) : D.nx σ (upd H p o') := by
  have hks : keysH (L.set k (p, o')) = keysH L := keysH_set hk
  have hmem : p ∈ keysH L := List.mem_map.mpr ⟨_, List.mem_of_getElem? hk, rfl⟩
  have kp : Kp (W.toWc.plusL (keysH L)) H (upd H p o') := fun b u m z => by
    have hne : b ≠ p := fun e => m (plusL_mu.mpr (.inr (by rw [e]; exact hmem)))
    rw [upd_ne hne]
    exact z
  have nF' : ∀ k' ∈ keysH (L.set k (p, o')), F k' = none := fun k' h => nF k' (by rw [hks] at h; exact h)
  have nmu : ¬ W.mu p := fresh_mu oF (nF p hmem)
  have s : StpH W L H (L.set k (p, o')) (upd H p o') := ⟨kp, fun k' h => .inl (by rw [hks] at h; exact h)⟩
  have hl : k < L.length := (List.getElem?_eq_some_iff.mp hk).1
  have G2 : GOk (W.ownH F (L.set k (p, o')) oF nF') (upd H p o') σ (Γ.set i (some t)) := by
    refine ⟨⟨W.st _ _ _ G.ok.1 nmu, fun x hx => ?_⟩, fun a u m z => ?_, fun j t' ht => ?_, by rw [List.length_set]; exact G.len⟩
    · obtain ⟨j, hj⟩ := List.getElem?_of_mem hx
      rw [List.getElem?_set] at hj
      by_cases e : k = j
      · rw [if_pos e, if_pos hl] at hj
        cases hj
        exact upd_same
      · rw [if_neg e] at hj
        have hne : x.1 ≠ p := fun z => by
          have h1 : (keysH L)[j]? = some p := by rw [List.getElem?_map, hj, ← z]; rfl
          have h2 : (keysH L)[k]? = some p := by rw [List.getElem?_map, hk]; rfl
          exact e ((List.getElem?_inj (by rw [List.length_map]; exact hl) nd).mp (h2.trans h1.symm))
        rw [upd_ne hne]
        exact G.ok.2 x (List.mem_of_getElem? hj)
    · have hne : a ≠ p := fun e => by rw [e, nF p hmem] at z; cases z
      rw [upd_ne hne]
      exact G.wish a u m z
    · show ∃ v, σ[j]? = some (some v) ∧ t'.den (W.toWc.plusL (keysH (L.set k (p, o')))) _ v
      rw [hks]
      by_cases e : i = j
      · subst e
        have hl2 : i < Γ.length := by
          have := (List.getElem?_eq_some_iff.mp hi).1
          rw [G.len] at this
          exact this
        rw [List.getElem?_set_self hl2] at ht
        cases ht
        exact ⟨_, hi, hb kp⟩
      · rw [List.getElem?_set_ne e] at ht
        obtain ⟨v, h1, h2⟩ := G.at_ j t' ht
        exact ⟨v, h1, Ty.mono kp h2⟩
  exact O.nx _ oF nF' σ _ _ s (by rw [hks]; exact nd) G2 q
/-- x = a new thing, from now on an own one -/
theorem newH {H H1 : Hp} {σ : L2.St} {D : Ends} {oF : W.ok F} {nF : ∀ k ∈ keysH L, F k = none} {i : Nat} {p : Addr} {o : HO} (t : Ty) (nd : (keysH L).Nodup) (G : GOk (W.ownH F L oF nF) H σ Γ) (O : EOkH W F L H D R)
    (n : H p = none) (e : Ext (W.ownH F L oF nF) H H1) (hp : H1 p = some o) (ht : t.den (W.toWc.plusL (keysH ((p, o) :: L))) H1 (.ref p)) (q : R.nx ((p, o) :: L) (Γ.set i (some t))) : D.nx (σ.set i (some (.ref p))) H1 := by
  have nFp : F p = none := fresh_FH G.ok.1 G.wish n
  have hpk : p ∉ keysH L := fun hk => by
    obtain ⟨x, hx, e1⟩ := List.mem_map.mp hk
    have := G.ok.2 x hx
    rw [e1, n] at this
    cases this
  have nF' : ∀ k ∈ keysH ((p, o) :: L), F k = none := fun k hk => by
    rcases List.mem_cons.mp hk with rfl | hk
    · exact nFp
    · exact nF k hk
  have s : StpH W L H ((p, o) :: L) H1 := ⟨e.keep, fun k hk => by
    rcases List.mem_cons.mp hk with rfl | hk
    · exact .inr n
    · exact .inl hk⟩
  have G1 := G.ext e
  have kp : Kp ((W.toWc.plusL (keysH L)).plus p) H H1 := fun b u m z => e.keep b u (fun z => m (.inl z)) z
  have G2 : GOk (W.ownH F ((p, o) :: L) oF nF') H1 σ Γ := ⟨⟨G1.ok.1, fun x hx => by
    rcases List.mem_cons.mp hx with rfl | hx
    · exact hp
    · exact G1.ok.2 x hx⟩, G1.wish, fun j t ht => by
      obtain ⟨v, h1, h2⟩ := G.at_ j t ht
      exact ⟨v, h1, Ty.mono kp (t.r.grow p n h2)⟩, G.len⟩
  exact O.nx _ oF nF' _ H1 _ s (List.nodup_cons.mpr ⟨hpk, nd⟩) (G2.set i (t := t) ht) q
theorem sxh_newL {β : Type} {rβ : Rep β} {i : Nat} (h : ∀ Wo, OwnHW W L Wo → EvF Wo te Γ fun bs : List β => ∀ p vs, R.nx ((p, .lst vs) :: L) (Γ.set i (some (T (Ol.mk p vs bs))))) : SxH W F (tAsg te (gName i)) L Γ R := fun D σ H oF nF wF nd G O =>
  h _ (ownH_w wF) σ H _ G fun p H1 vs bs n e hp hb q => newH (T (Ol.mk p vs bs)) nd G O n e hp ⟨rfl, hb⟩ (q p vs)
theorem sxh_newD (β : Type) {rβ : Rep β} {i : Nat} (q : ∀ p, R.nx ((p, .dK []) :: L) (Γ.set i (some (T (Od.mk p [] ([] : List (Str × β))))))) : SxH W F (tAsg tDNewK (gName i)) L Γ R := fun D σ H oF nF wF nd G O p hp =>
  newH (T (Od.mk p [] ([] : List (Str × β)))) nd G O hp (Ext.new G.ok hp) upd_same ⟨rfl, .nil⟩ (q p)
theorem od_at {Wo : Wd} {H : Hp} {σ : L2.St} {β : Type} {rβ : Rep β} {i : Nat} {p : Addr} {kvs : List (Key × V)} {ds : List (Str × β)} (G : GOk Wo H σ Γ) (h : Γ[i]? = some (some (T (Od.mk p kvs ds)))) : σ[i]? = some (some (.ref p)) ∧ Dk (den Wo H) kvs ds := by
  obtain ⟨v, h1, h2, h3⟩ := G.at_ i _ h
  subst h2
  exact ⟨h1, h3⟩
/-- d[k] = e, d an own dict -/
theorem sxh_dput {β : Type} {rβ : Rep β} {i : Nat} (n : Nat) {ty tv : TE} {p : Addr} {kvs : List (Key × V)} {ds : List (Str × β)} (hk : L[n]? = some (p, .dK kvs)) (hi : Γ[i]? = some (some (T (Od.mk p kvs ds))))
    (h : ∀ Wo, OwnHW W L Wo → EvK Wo tv Γ fun b : β => EvK Wo ty Γ fun k : Str => ds.length < 100000 ∧ ∀ kvs', R.nx (L.set n (p, .dK kvs')) (Γ.set i (some (T (Od.mk p kvs' (putDc ds k b)))))) : SxH W F (sDPut (tVar i) ty tv) L Γ R := fun D σ H oF nF wF nd G O => by
  refine h _ (ownH_w wF) σ H _ G fun v H1 b e1 dv h2 => ?_
  have G1 := G.ext e1
  obtain ⟨h1, h3⟩ := od_at G1 hi
  refine ⟨_, h1, ?_⟩
  refine h2 σ H1 _ G1 fun y H2 k e2 dy ⟨hlen, q⟩ => ?_
  have G2 := G1.ext e2
  obtain ⟨_, h5⟩ := od_at G2 hi
  have dy : y = .str k := dy
  have hp := G2.ok.2 _ (List.mem_of_getElem? hk)
  refine ⟨p, _, rfl, .inl ⟨kvs, .inr k, hp, dy, ?_, rfl⟩, ?_⟩
  · exact Nat.lt_of_lt_of_le (by rw [h5.length]; exact hlen) (by decide : 100000 ≤ sizeLine)
  · exact ownH_put (T (Od.mk p _ (putDc ds k b))) nd G2 (O.step G2.ok.1 (ownH_stp (e1.trans e2))) hk h1 (fun kp => ⟨rfl, (h5.put (Rep.mono e2.keep dv)).imp fun _ _ d => Rep.mono kp d⟩) (q _)
/-- for x in a list, with own lists -/
theorem sxh_forL {α : Type} {rα : Rep α} {K : PySem.W.Frag} (hK : W.B.K = K) (h : ∀ Wo, OwnHW W L Wo → EvK Wo te Γ fun as : List α => ∃ I : Nat → OwnH → Gam → Prop, I 0 L Γ ∧
      (∀ i L' Γ', I i L' Γ' → keysH L' = keysH L) ∧
      (∀ (i : Nat) (a : α) L' Γ', as[i]? = some a → I i L' Γ' → ∀ Wo', OwnHW W L' Wo' → Tg Wo' g Γ' a fun Γ1 => SxH W F t L' Γ1 { R with nx := I (i + 1), ct := I (i + 1), bk := R.nx }) ∧ ∀ L' Γ', I as.length L' Γ' → R.nx L' Γ') : SxH W F (tFor (iList K te) g t) L Γ R := by
  subst hK
  refine fun D σ H oF nF wF nd G O => h _ (ownH_w wF) σ H _ G fun v H1 as e1 ⟨p, vs, hv, hp, hd⟩ ⟨I, h0, hI, hs, hl⟩ => ?_
  have hB : (W.ownH F L oF nF).B.K = W.B.K := congrArg Bs.K plusL_B
  have G1 := G.ext e1
  have O1 := O.step G1.ok.1 (ownH_stp e1)
  have sq : ∀ H', Kp (W.toWc.plusL (keysH L)) H1 H' → SqL W.B.K H' p vs := fun H' kk => .inl (.inl (kk _ _ hp.1 hp.2))
  refine ⟨p, hv, ⟨vs, sq H1 fun _ _ _ z => z⟩, for_list (K := W.B.K) (a := p) (xs := vs) (fun i σ' H' => ∃ L' oF nF Γ', StpH W L H1 L' H' ∧ (keysH L').Nodup ∧ GOk (W.ownH F L' oF nF) H' σ' Γ' ∧ I i L' Γ') ⟨L, oF, nF, Γ, .refl, nd, G1, h0⟩ (fun i σ' H' _ ⟨L', _, _, Γ', s, _⟩ => sq H' s.1) ?_ ?_⟩
  · rintro i x σ' H' hx ⟨L', oF', nF', Γ', s, nd', G', q⟩
    obtain ⟨a, ha, da⟩ := (hd.imp fun _ _ d => Rep.mono s.1 d).at hx
    obtain ⟨js, hj⟩ := hs i a L' Γ' ha q _ (ownH_w (oF := oF') (nF := nF') wF)
    have da' : den (W.ownH F L' oF' nF').toWc H' x a := by
      show den (W.toWc.plusL (keysH L')) H' x a
      rw [hI i L' Γ' q]
      exact da
    refine hj σ' H' x _ G' da' fun σ2 Γ2 G2 _ q2 => ?_
    exact q2 _ σ2 H' oF' nF' wF nd' G2 ⟨fun L3 oF3 nF3 σ3 H3 Γ3 s3 nd3 G3 q3 => ⟨L3, oF3, nF3, Γ3, s.trans G'.ok.1 s3, nd3, G3, q3⟩, fun v3 H3 t3 e3 d3 q3 => O.rt v3 H3 t3 e3 d3 q3,
      fun L3 oF3 nF3 σ3 H3 Γ3 s3 nd3 G3 q3 => O1.nx L3 oF3 nF3 σ3 H3 Γ3 (s.trans G'.ok.1 s3) nd3 G3 q3, fun L3 oF3 nF3 σ3 H3 Γ3 s3 nd3 G3 q3 => ⟨L3, oF3, nF3, Γ3, s.trans G'.ok.1 s3, nd3, G3, q3⟩⟩
  · rintro σ' H' ⟨L', oF', nF', Γ', s, nd', G', q⟩
    rw [hd.length] at q
    exact O1.nx L' oF' nF' σ' H' Γ' s nd' G' (hl L' Γ' q)
/-- for x in range(n), with own lists -/
theorem sxh_forR (h : ∀ Wo, OwnHW W L Wo → EvK Wo te Γ fun n : Int => (-(2 ^ 62) ≤ n ∧ n < 2 ^ 62) ∧ ∃ I : Nat → OwnH → Gam → Prop, I 0 L Γ ∧
      (∀ (i : Nat) L' Γ', i < n.toNat → I i L' Γ' → ∀ Wo', OwnHW W L' Wo' → Tg Wo' g Γ' (i : Int) fun Γ1 => SxH W F t L' Γ1 { R with nx := I (i + 1), ct := I (i + 1), bk := R.nx }) ∧ ∀ L' Γ', I n.toNat L' Γ' → R.nx L' Γ') : SxH W F (tFor (iRng1 (tCons te tNil)) g t) L Γ R := by
  refine fun D σ H oF nF wF nd G O => h _ (ownH_w wF) σ H _ G fun v H1 n e1 hv ⟨⟨b1, b2⟩, I, h0, hs, hl⟩ => ?_
  have G1 := G.ext e1
  have O1 := O.step G1.ok.1 (ownH_stp e1)
  refine ⟨n, congrArg (fun x => [x]) hv, b1, b2, for_range (lo := 0) (n := n.toNat) (fun i σ' H' => ∃ L' oF nF Γ', StpH W L H1 L' H' ∧ (keysH L').Nodup ∧ GOk (W.ownH F L' oF nF) H' σ' Γ' ∧ I i L' Γ') ⟨L, oF, nF, Γ, .refl, nd, G1, h0⟩ ?_ ?_⟩
  · rintro i σ' H' hi ⟨L', oF', nF', Γ', s, nd', G', q⟩
    obtain ⟨js, hj⟩ := hs i L' Γ' hi q _ (ownH_w (oF := oF') (nF := nF') wF)
    refine hj σ' H' _ _ G' (by show V.int ((0 : Int) + i) = .int i; rw [Int.zero_add]) fun σ2 Γ2 G2 _ q2 => ?_
    exact q2 _ σ2 H' oF' nF' wF nd' G2 ⟨fun L3 oF3 nF3 σ3 H3 Γ3 s3 nd3 G3 q3 => ⟨L3, oF3, nF3, Γ3, s.trans G'.ok.1 s3, nd3, G3, q3⟩, fun v3 H3 t3 e3 d3 q3 => O.rt v3 H3 t3 e3 d3 q3,
      fun L3 oF3 nF3 σ3 H3 Γ3 s3 nd3 G3 q3 => O1.nx L3 oF3 nF3 σ3 H3 Γ3 (s.trans G'.ok.1 s3) nd3 G3 q3, fun L3 oF3 nF3 σ3 H3 Γ3 s3 nd3 G3 q3 => ⟨L3, oF3, nF3, Γ3, s.trans G'.ok.1 s3, nd3, G3, q3⟩⟩
  · rintro σ' H' ⟨L', oF', nF', Γ', s, nd', G', q⟩
    exact O1.nx L' oF' nF' σ' H' Γ' s nd' G' (hl L' Γ' q)

/-- xs.append(e), xs an own list -/
theorem sxh_append {α : Type} {rα : Rep α} {K : PySem.W.Frag} {i : Nat} (k : Nat) {p : Addr} {vs : List V} {as : List α} (hk : L[k]? = some (p, .lst vs)) (hi : Γ[i]? = some (some (T (Ol.mk p vs as))))
    (h : ∀ Wo, OwnHW W L Wo → EvK Wo te Γ fun a : α => as.length < 100000 ∧ ∀ v, R.nx (L.set k (p, .lst (vs ++ [v]))) (Γ.set i (some (T (Ol.mk p (vs ++ [v]) (as ++ [a])))))) : SxH W F (tDrop (tBM K "list" rAppend (tVar i) (tCons te tNil))) L Γ R := fun D σ H oF nF wF nd G O => by
  obtain ⟨h1, h2⟩ := ol_at G hi
  refine ⟨_, h1, .inl ⟨rfl, _, .inl (.inl (G.ok.2 _ (List.mem_of_getElem? hk)))⟩, ?_⟩
  refine h _ (ownH_w wF) σ H _ G fun v H1 a e1 d ⟨hl, q⟩ => ?_
  have G1 := G.ext e1
  refine ⟨p, vs, v, rfl, rfl, G1.ok.2 _ (List.mem_of_getElem? hk), Nat.lt_of_lt_of_le (by rw [h2.length]; exact hl) (by decide : 100000 ≤ sizeLine), ?_⟩
  exact ownH_put (T (Ol.mk p (vs ++ [v]) (as ++ [a]))) nd G1 (O.step G1.ok.1 (ownH_stp e1)) hk h1 (fun kp => ⟨rfl, (Dl.append (h2.imp fun _ _ d => Rep.mono e1.keep d) (.cons d .nil)).imp fun _ _ d => Rep.mono kp d⟩) (q v)
/-! ### own objects with fields -/
structure Fd (α : Type) where
  n : Str
  a : α
/-- the fields of an object; the last one that was set stands first -/
class FRep (β : Type) where
  fd : Wc → Hp → List (Str × V) → β → Prop
  mono : ∀ {W : Wc} {H H' : Hp} {fs : List (Str × V)} {b : β}, Kp W H H' → fd W H fs b → fd W H' fs b
  grow : ∀ {W : Wc} {H : Hp} {fs : List (Str × V)} {b : β} (D : Addr), H D = none → fd W H fs b → fd (W.plus D) H fs b
  shrink : ∀ {W : Wc} {H : Hp} {fs : List (Str × V)} {b : β} (D : Addr), fd (W.plus D) H fs b → fd W H fs b
  nms : β → List Str
  nm : ∀ {W : Wc} {H : Hp} {fs : List (Str × V)} {b : β}, fd W H fs b → fs.map (·.1) = nms b
instance frepU : FRep Unit := ⟨fun _ _ fs _ => fs = [], fun _ h => h, fun _ _ h => h, fun _ h => h, fun _ => [], fun h => by rw [h]; rfl⟩
instance frepP {α β : Type} [Rep α] [FRep β] : FRep (Fd α × β) :=
  ⟨fun W H fs b => ∃ v r, fs = r ++ [(b.1.n, v)] ∧ den W H v b.1.a ∧ FRep.fd W H r b.2,
   fun e ⟨v, r, h1, h2, h3⟩ => ⟨v, r, h1, Rep.mono e h2, FRep.mono e h3⟩,
   fun D n ⟨v, r, h1, h2, h3⟩ => ⟨v, r, h1, Rep.grow D n h2, FRep.grow D n h3⟩,
   fun D ⟨v, r, h1, h2, h3⟩ => ⟨v, r, h1, Rep.shrink D h2, FRep.shrink D h3⟩,
   fun b => FRep.nms b.2 ++ [b.1.n],
   fun ⟨v, r, h1, h2, h3⟩ => by rw [h1, List.map_append, FRep.nm h3]; rfl⟩
structure Oi (β : Type) where
  p : Addr
  c : Cn
  dx : Addr
  fs : List (Str × V)
  b : β
instance {β : Type} [FRep β] : Rep (Oi β) :=
  ⟨fun W H v o => v = .ref o.p ∧ FRep.fd W H o.fs o.b, fun e h => ⟨h.1, FRep.mono e h.2⟩, fun D n h => ⟨h.1, FRep.grow D n h.2⟩, fun D h => ⟨h.1, FRep.shrink D h.2⟩⟩
theorem fshrinkO {β : Type} [FRep β] {W : Wc} {H : Hp} {fs : List (Str × V)} {b : β} : ∀ {ks : List Addr}, FRep.fd (W.plusL ks) H fs b → FRep.fd W H fs b
  | [], h => h
  | k :: ks, h => fshrinkO (ks := ks) (FRep.shrink k h)
/-! ### own things that come to rest -/
inductive FrzH (B : Bs) (L : OwnH) : Gam → Gam → Prop
  | nil : FrzH B L [] []
  | ownI {β : Type} {fβ : FRep β} {α : Type} {rα : Rep α} {o : Oi β} {a : α} {Γ Γ' : Gam} : (o.p, .ins (B.cl o.c) o.dx o.fs) ∈ L → (∀ (W : Wc) (H : Hp), W.B = B → ¬ W.mu o.p → H o.p = some (.ins (B.cl o.c) o.dx o.fs) → FRep.fd W H o.fs o.b → den W H (.ref o.p) a) → FrzH B L Γ Γ' → FrzH B L (some (T o) :: Γ) (some (T a) :: Γ')
  | ownL {α : Type} {rα : Rep α} {p : Addr} {vs : List V} {as : List α} {Γ Γ' : Gam} : (p, .lst vs) ∈ L → FrzH B L Γ Γ' → FrzH B L (some (T (Ol.mk p vs as)) :: Γ) (some (T as) :: Γ')
  | ownD {β : Type} {rβ : Rep β} {p : Addr} {kvs : List (Key × V)} {ds : List (Str × β)} {Γ Γ' : Gam} : (p, .dK kvs) ∈ L → FrzH B L Γ Γ' → FrzH B L (some (T (Od.mk p kvs ds)) :: Γ) (some (T (Dc.mk ds)) :: Γ')
  | same {t : Option Ty} {Γ Γ' : Gam} : FrzH B L Γ Γ' → FrzH B L (t :: Γ) (t :: Γ')
theorem FrzH.len {B : Bs} {Γ Γ' : Gam} (h : FrzH B L Γ Γ') : Γ.length = Γ'.length := by
  induction h with
  | nil => rfl
  | ownI _ _ _ ih => exact congrArg (· + 1) ih
  | ownL _ _ ih => exact congrArg (· + 1) ih
  | ownD _ _ ih => exact congrArg (· + 1) ih
  | same _ ih => exact congrArg (· + 1) ih
theorem frzH_slots {B : Bs} {H : Hp} {Γ Γ' : Gam} (hB : W.B = B) (nm : ∀ k ∈ keysH L, ¬ W.mu k) (pin : ∀ x ∈ L, H x.1 = some x.2) (f : FrzH B L Γ Γ') : ∀ (i : Nat) (t : Ty), Γ'[i]? = some (some t) → (∀ u v, Γ[i]? = some (some u) → u.den (W.toWc.plusL (keysH L)) H v → t.den W.toWc H v) ∧ ∃ u, Γ[i]? = some (some u) := by
  induction f with
  | nil => intro i t h; simp at h
  | @ownI β fβ α rα o a Γ Γ' hm hd _ ih =>
    intro i t h
    cases i with
    | zero =>
      have h' : some (some (T a)) = some (some t) := by simpa using h
      cases h'
      refine ⟨fun u v hu hd2 => ?_, _, rfl⟩
      have hu' : some (some (T o)) = some (some u) := by simpa using hu
      cases hu'
      obtain ⟨hv, hb⟩ := hd2
      subst hv
      exact hd W.toWc H hB (nm o.p (List.mem_map.mpr ⟨_, hm, rfl⟩)) (pin _ hm) (fshrinkO hb)
    | succ i => exact ih i t (by simpa using h)
  | @ownL α rα p vs as Γ Γ' hm _ ih =>
    intro i t h
    cases i with
    | zero =>
      have h' : some (some (T as)) = some (some t) := by simpa using h
      cases h'
      refine ⟨fun u v hu hd => ?_, _, rfl⟩
      have hu' : some (some (T (Ol.mk p vs as))) = some (some u) := by simpa using hu
      cases hu'
      obtain ⟨hv, hb⟩ := hd
      exact ⟨p, vs, hv, ⟨nm p (List.mem_map.mpr ⟨_, hm, rfl⟩), pin _ hm⟩, hb.imp fun _ _ d => shrinkL (t := T _) d⟩
    | succ i => exact ih i t (by simpa using h)
  | @ownD β rβ p kvs ds Γ Γ' hm _ ih =>
    intro i t h
    cases i with
    | zero =>
      have h' : some (some (T (Dc.mk ds))) = some (some t) := by simpa using h
      cases h'
      refine ⟨fun u v hu hd => ?_, _, rfl⟩
      have hu' : some (some (T (Od.mk p kvs ds))) = some (some u) := by simpa using hu
      cases hu'
      obtain ⟨hv, hb⟩ := hd
      exact ⟨p, kvs, hv, ⟨nm p (List.mem_map.mpr ⟨_, hm, rfl⟩), pin _ hm⟩, hb.imp fun _ _ d => shrinkL (t := T _) d⟩
    | succ i => exact ih i t (by simpa using h)
  | @same t0 Γ Γ' _ ih =>
    intro i t h
    cases i with
    | zero =>
      have h' : some t0 = some (some t) := by simpa using h
      cases h'
      refine ⟨fun u v hu hd => ?_, _, rfl⟩
      have hu' : some (some t) = some (some u) := by simpa using hu
      cases hu'
      exact shrinkL hd
    | succ i => exact ih i t (by simpa using h)
theorem sxh_freeze {t : TS} {Γ' : Gam} (f : FrzH W.B L Γ Γ') (h : SxH W F t [] Γ' R) : SxH W F t L Γ R := fun D σ H oF nF wF nd G O => by
  have nm : ∀ k ∈ keysH L, ¬ W.mu k := fun k hk => fresh_mu oF (nF k hk)
  have G' : GOk (W.ownH F [] oF fun _ z => nomatch z) H σ Γ' := ⟨⟨G.ok.1, fun _ z => nomatch z⟩, G.wish, fun i t ht => by
    obtain ⟨h1, u, hu⟩ := frzH_slots rfl nm G.ok.2 f i t ht
    obtain ⟨v, h2, h3⟩ := G.at_ i u hu
    exact ⟨v, h2, h1 u v hu h3⟩, G.len.trans f.len⟩
  refine h D σ H oF (fun _ z => nomatch z) wF .nil G' ⟨fun L' oF' nF' σ' H' Γ2 s nd' G2 q => O.nx L' oF' nF' σ' H' Γ2 ?_ nd' G2 q, O.rt, fun L' oF' nF' σ' H' Γ2 s nd' G2 q => O.bk L' oF' nF' σ' H' Γ2 ?_ nd' G2 q, fun L' oF' nF' σ' H' Γ2 s nd' G2 q => O.ct L' oF' nF' σ' H' Γ2 ?_ nd' G2 q⟩ <;>
  exact ⟨fun a o m z => s.1 a o (fun q => m (plusL_mu.mpr (.inl q))) z, fun k hk => .inr ((s.2 k hk).resolve_left fun z => nomatch z)⟩
end
theorem huX {k : Nat} {A : Around} (h : Room k A) : A.units + 1 < cLine := by
  have := h.units
  omega
end G
set_option Elab.async false
set_option linter.all false
set_option maxRecDepth 100000
set_option maxHeartbeats 2000000
namespace G
open PySem PySem.Spec PyProof.Rows L2 StX
/-! ### own objects: fields set, what an __init__ promises, looks -/
theorem putF_new {f : Str} {v : V} : ∀ {fs : List (Str × V)}, f ∉ fs.map (·.1) → putF f v fs = fs ++ [(f, v)]
  | [], _ => rfl
  | (g, x) :: r, h => by
    have h1 : ¬ g = f := fun e => h (by rw [← e]; exact List.mem_cons_self)
    show (if g = f then (g, v) :: r else (g, x) :: putF f v r) = _
    rw [if_neg h1, putF_new (fs := r) fun e => h (List.mem_cons_of_mem _ e)]
    rfl
theorem putF_last {f : Str} {v w : V} : ∀ {fs : List (Str × V)}, f ∉ fs.map (·.1) → putF f v (fs ++ [(f, w)]) = fs ++ [(f, v)]
  | [], _ => by
    show (if f = f then (f, v) :: [] else _) = _
    rw [if_pos rfl]
    rfl
  | (g, x) :: r, h => by
    have h1 : ¬ g = f := fun e => h (by rw [← e]; exact List.mem_cons_self)
    show (if g = f then (g, v) :: (r ++ [(f, w)]) else (g, x) :: putF f v (r ++ [(f, w)])) = _
    rw [if_neg h1, putF_last (fs := r) fun e => h (List.mem_cons_of_mem _ e)]
    rfl
theorem look_last {f : Str} {v : V} : ∀ {fs : List (Str × V)}, f ∉ fs.map (·.1) → (fs ++ [(f, v)]).lookup f = some v
  | [], _ => by simp [List.lookup]
  | (g, x) :: r, h => by
    have h1 : ¬ f = g := fun e => h (by rw [e]; exact List.mem_cons_self)
    rw [List.cons_append, List.lookup_cons, beq_eq_false_iff_ne.mpr h1]
    exact look_last fun e => h (List.mem_cons_of_mem _ e)
theorem look_front {f g : Str} {v : V} (h : f ≠ g) : ∀ {fs : List (Str × V)}, (fs ++ [(g, v)]).lookup f = fs.lookup f
  | [] => by simp [List.lookup, beq_eq_false_iff_ne.mpr h]
  | (k, x) :: r => by
    rw [List.cons_append, List.lookup_cons, List.lookup_cons, look_front h (fs := r)]
/-- what field f of b is -/
inductive GetF (f : Str) {α : Type} (rα : Rep α) (a : α) : {β : Type} → FRep β → β → Prop
  | here {β : Type} {fβ : FRep β} {b : β} : f ∉ FRep.nms b → GetF f rα a (@frepP α β rα fβ) (⟨f, a⟩, b)
  | there {γ β : Type} {rγ : Rep γ} {fβ : FRep β} {c : Fd γ} {b : β} : f ≠ c.n → GetF f rα a fβ b → GetF f rα a (@frepP γ β rγ fβ) (c, b)
theorem GetF.look {f : Str} {α β : Type} {rα : Rep α} {a : α} {fβ : FRep β} {b : β} (g : GetF f rα a fβ b) : ∀ {W : Wc} {H : Hp} {fs : List (Str × V)}, FRep.fd W H fs b → ∃ v, fs.lookup f = some v ∧ den W H v a := by
  induction g with
  | here h =>
    intro W H fs ⟨v, r, h1, h2, h3⟩
    have h3' : FRep.fd W H r _ := h3
    exact ⟨v, by rw [h1]; exact look_last (by rw [FRep.nm h3']; exact h), h2⟩
  | there h _ ih =>
    intro W H fs ⟨v, r, h1, h2, h3⟩
    obtain ⟨w, h4, h5⟩ := ih h3
    exact ⟨w, by rw [h1]; exact (look_front h).trans h4, h5⟩
section
variable {W : Wd} {F : Hp} {L : OwnH} {Γ : Gam} {ta tb te tv to : TE} {tt : TT} {t u : TS} {R : PoH} {g : TG} {K : PySem.W.Frag}
theorem oi_at {Wo : Wd} {H : Hp} {σ : L2.St} {β : Type} {fβ : FRep β} {i : Nat} {o : Oi β} (G : GOk Wo H σ Γ) (h : Γ[i]? = some (some (T o))) : σ[i]? = some (some (.ref o.p)) ∧ FRep.fd Wo.toWc H o.fs o.b := by
  obtain ⟨v, h1, h2, h3⟩ := G.at_ i _ h
  subst h2
  exact ⟨h1, h3⟩
/-- self.f = e, self an own object; how the fields change is told -/
theorem sxh_setf {α β β' : Type} {rα : Rep α} {fβ : FRep β} {fβ' : FRep β'} {f : Str} {i : Nat} (n : Nat) {p dx : Addr} {c : Cn} {fs : List (Str × V)} {b : β} (b' : α → β')
    (hK : W.B.K = K) (hc : L2.Cls K (W.B.cl c)) (hn : NoAttr K (W.B.cl c) f) (hk : L[n]? = some (p, .ins (W.B.cl c) dx fs)) (hi : Γ[i]? = some (some (T (Oi.mk p c dx fs b)))) (hl : (FRep.nms b).length < 1000)
    (hf : ∀ (W' : Wc) (H : Hp) (v : V) (a : α), den W' H v a → FRep.fd W' H fs b → FRep.fd W' H (putF f v fs) (b' a))
    (h : ∀ Wo, OwnHW W L Wo → EvK Wo tv Γ fun a : α => ∀ fs', R.nx (L.set n (p, .ins (W.B.cl c) dx fs')) (Γ.set i (some (T (Oi.mk p c dx fs' (b' a)))))) : SxH W F (sFld K (tVar i) tv f) L Γ R := fun D σ H oF nF wF nd G O => by
  subst hK
  refine h _ (ownH_w wF) σ H _ G fun y H1 a e1 dy q => ?_
  have G1 := G.ext e1
  obtain ⟨h1, h2⟩ := oi_at G1 hi
  have hp := G1.ok.2 _ (List.mem_of_getElem? hk)
  have hlen : fs.length < 1000 := by
    have := FRep.nm h2
    have e := congrArg List.length this
    rw [List.length_map] at e
    have e : fs.length = (FRep.nms b).length := e
    omega
  refine ⟨_, h1, p, _, dx, fs, rfl, hp, hc, hn, hlen, ?_⟩
  exact ownH_put (T (Oi.mk p c dx _ (b' a))) nd G1 (O.step G1.ok.1 (ownH_stp e1)) hk h1 (fun kp => ⟨rfl, FRep.mono kp (hf _ H1 y a dy h2)⟩) (q _)
/-- a new field -/
theorem sxh_setn {α β : Type} {rα : Rep α} {fβ : FRep β} {f : Str} {i : Nat} (n : Nat) {p dx : Addr} {c : Cn} {fs : List (Str × V)} {b : β}
    (hK : W.B.K = K) (hc : L2.Cls K (W.B.cl c)) (hn : NoAttr K (W.B.cl c) f) (hk : L[n]? = some (p, .ins (W.B.cl c) dx fs)) (hi : Γ[i]? = some (some (T (Oi.mk p c dx fs b)))) (hl : (FRep.nms b).length < 1000) (hm : f ∉ FRep.nms b)
    (h : ∀ Wo, OwnHW W L Wo → EvK Wo tv Γ fun a : α => ∀ fs', R.nx (L.set n (p, .ins (W.B.cl c) dx fs')) (Γ.set i (some (T (Oi.mk p c dx fs' ((⟨f, a⟩, b) : Fd α × β)))))) : SxH W F (sFld K (tVar i) tv f) L Γ R :=
  sxh_setf (fβ' := frepP) n (fun a => ((⟨f, a⟩, b) : Fd α × β)) hK hc hn hk hi hl (fun W' H v a d z => ⟨v, fs, putF_new (by rw [FRep.nm z]; exact hm), d, z⟩) h
/-- the last field anew -/
theorem sxh_setl {α γ β : Type} {rα : Rep α} {rγ : Rep γ} {fβ : FRep β} {f : Str} {i : Nat} (n : Nat) {p dx : Addr} {c : Cn} {fs : List (Str × V)} {c0 : γ} {b : β}
    (hK : W.B.K = K) (hc : L2.Cls K (W.B.cl c)) (hn : NoAttr K (W.B.cl c) f) (hk : L[n]? = some (p, .ins (W.B.cl c) dx fs)) (hi : Γ[i]? = some (some (T (Oi.mk p c dx fs ((⟨f, c0⟩, b) : Fd γ × β))))) (hl : (FRep.nms b).length < 999) (hm : f ∉ FRep.nms b)
    (h : ∀ Wo, OwnHW W L Wo → EvK Wo tv Γ fun a : α => ∀ fs', R.nx (L.set n (p, .ins (W.B.cl c) dx fs')) (Γ.set i (some (T (Oi.mk p c dx fs' ((⟨f, a⟩, b) : Fd α × β)))))) : SxH W F (sFld K (tVar i) tv f) L Γ R :=
  sxh_setf (fβ' := frepP) n (fun a => ((⟨f, a⟩, b) : Fd α × β)) hK hc hn hk hi (by show (FRep.nms b ++ [f]).length < 1000; rw [List.length_append]; show _ + 1 < 1000; omega)
    (fun W' H v a d ⟨w, r, h1, h2, h3⟩ => ⟨v, r, by have h1 : fs = r ++ [(f, w)] := h1; rw [h1]; exact putF_last (by rw [FRep.nm (b := b) h3]; exact hm), d, h3⟩) h
/-- self.f, self an own object -/
theorem ev_fldOi {Wo : Wd} {α β : Type} {rα : Rep α} {fβ : FRep β} {f : Str} {i : Nat} {p dx : Addr} {c : Cn} {fs : List (Str × V)} {b : β} {a : α} {k : α → Prop}
    (hW : OwnHW W L Wo) (hK : W.B.K = K) (hc : L2.Cls K (W.B.cl c)) (hn : NoAttr K (W.B.cl c) f) (hm : (p, HO.ins (W.B.cl c) dx fs) ∈ L) (hi : Γ[i]? = some (some (T (Oi.mk p c dx fs b)))) (hg : GetF f rα a fβ b) (q : k a) : EvK Wo (tFld K (tVar i) f) Γ k := by
  subst hK
  refine fun σ H Q G c2 => ?_
  obtain ⟨h1, h2⟩ := oi_at G hi
  obtain ⟨v, h3, h4⟩ := hg.look h2
  exact ⟨_, h1, p, _, dx, fs, v, rfl, hW.pin H G.ok _ hm, hc, hn, h3, c2 v H a (Ext.refl G.ok) h4 q⟩
/-! ### a look: the own things as if they were at rest -/
theorem lookH_gok {H : Hp} {σ : L2.St} {Γ' : Gam} {oF : W.ok F} {nF : ∀ k ∈ keysH L, F k = none} (wF : W.wish F) (f : FrzH W.B L Γ Γ') (G : GOk (W.ownH F L oF nF) H σ Γ) : GOk W H σ Γ' := by
  have nm : ∀ k ∈ keysH L, ¬ W.mu k := fun k hk => fresh_mu oF (nF k hk)
  exact ⟨G.ok.1, W.wst F H G.wish G.ok.1 wF, fun i t ht => by
    obtain ⟨h1, u, hu⟩ := frzH_slots rfl nm G.ok.2 f i t ht
    obtain ⟨v, h2, h3⟩ := G.at_ i u hu
    exact ⟨v, h2, h1 u v hu h3⟩, G.len.trans f.len⟩
theorem lookH_ext {H H' : Hp} {oF : W.ok F} {nF : ∀ k ∈ keysH L, F k = none} (o : (W.ownH F L oF nF).ok H) (e : Ext W H H') : Ext (W.ownH F L oF nF) H H' := by
  have nm : ∀ k ∈ keysH L, ¬ W.mu k := fun k hk => fresh_mu oF (nF k hk)
  exact ⟨fun a u m z => e.keep a u (fun q => m (plusL_mu.mpr (.inl q))) z, e.ok, fun x hx => e.keep x.1 x.2 (nm _ (List.mem_map.mpr ⟨x, hx, rfl⟩)) (o.2 x hx)⟩
/-- data that lean on no object -/
class Flat (α : Type) [Rep α] : Prop where
  at_ : ∀ {W W' : Wc} {H H' : Hp} {v : V} {a : α}, den W H v a → den W' H' v a
instance : Flat Int := ⟨fun h => h⟩
instance : Flat Bool := ⟨fun h => h⟩
instance : Flat Str := ⟨fun h => h⟩
instance : Flat Unit := ⟨fun h => h⟩
theorem lookH_K {α : Type} [rα : Rep α] [Flat α] {Γ' : Gam} {k : α → Prop} {oF : W.ok F} {nF : ∀ k ∈ keysH L, F k = none} (wF : W.wish F) (f : FrzH W.B L Γ Γ') (h : EvK W te Γ' k) : EvK (W.ownH F L oF nF) te Γ k := fun σ H Q G c =>
  h σ H Q (lookH_gok wF f G) fun v H1 a e d q => c v H1 a (lookH_ext G.ok e) (Flat.at_ d) q
theorem lookH_T {Γ' : Gam} {k : Bool → Prop} {oF : W.ok F} {nF : ∀ k ∈ keysH L, F k = none} (wF : W.wish F) (f : FrzH W.B L Γ Γ') (h : EvT W tt Γ' k) : EvT (W.ownH F L oF nF) tt Γ k := fun σ H Q G c =>
  h σ H Q (lookH_gok wF f G) fun H1 b e q => c H1 b (lookH_ext G.ok e) q
theorem lookH_F {β : Type} [rβ : Rep β] [Flat β] {Γ' : Gam} {k : List β → Prop} {oF : W.ok F} {nF : ∀ k ∈ keysH L, F k = none} (wF : W.wish F) (f : FrzH W.B L Γ Γ') (h : EvF W te Γ' k) : EvF (W.ownH F L oF nF) te Γ k := fun σ H Q G c =>
  h σ H Q (lookH_gok wF f G) fun p H1 vs bs n e hp hd q => c p H1 vs bs n (lookH_ext G.ok e) hp (hd.imp fun _ _ d => Flat.at_ d) q
/-- x = e in view of own things at rest; the value leans on none -/
theorem sxh_lookK {α : Type} {rα : Rep α} [Flat α] {Γ' : Gam} {i : Nat} (f : FrzH W.B L Γ Γ') (h : EvK W te Γ' fun a : α => R.nx L (Γ.set i (some (T a)))) : SxH W F (tAsg te (gName i)) L Γ R := fun D σ H oF nF wF nd G O =>
  sx_set (lookH_K wF f h) D σ H G (eokH_un nd O G.wish G.ok)
theorem sxh_lookF {β : Type} {rβ : Rep β} [Flat β] {Γ' : Gam} {i : Nat} (f : FrzH W.B L Γ Γ') (h : EvF W te Γ' fun as : List β => R.nx L (Γ.set i (some (T as)))) : SxH W F (tAsg te (gName i)) L Γ R := fun D σ H oF nF wF nd G O =>
  sx_set (lookH_F wF f h).k D σ H G (eokH_un nd O G.wish G.ok)
theorem sxh_lookD {α : Type} {rα : Rep α} [Flat α] {Γ' : Gam} (f : FrzH W.B L Γ Γ') (h : EvK W te Γ' fun _ : α => R.nx L Γ) : SxH W F (tDrop te) L Γ R := fun D σ H oF nF wF nd G O =>
  sx_drop (lookH_K wF f h) D σ H G (eokH_un nd O G.wish G.ok)
theorem sxh_lookIf {Γ' : Gam} (f : FrzH W.B L Γ Γ') (h : EvT W tt Γ' fun b => (b = true → SxH W F t L Γ R) ∧ (b = false → SxH W F u L Γ R)) : SxH W F (tIfS tt t u) L Γ R := fun D σ H oF nF wF nd G O =>
  lookH_T wF f h σ H _ G fun H1 b e1 ⟨h1, h2⟩ => by
    have G1 := G.ext e1
    cases b with
    | true => exact h1 rfl D σ H1 oF nF wF nd G1 (O.step G1.ok.1 (ownH_stp e1))
    | false => exact h2 rfl D σ H1 oF nF wF nd G1 (O.step G1.ok.1 (ownH_stp e1))
end
/-! ### what an __init__ promises: the fields that it sets at a new object -/
abbrev PI (β : Type) := Cn → (β → Prop) → (Xn → Prop) → List Ty → Prop
def spIn {β : Type} [FRep β] (B : Bs) (P : PI β) : Sp := fun vs H Q E => ∃ (W : Wd) (F : Hp) (p dx : Addr) (c : Cn) (ws : List V) (ts : List Ty) (k : β → Prop) (x : Xn → Prop) (oF : W.ok F) (nF : ∀ q ∈ keysH [(p, HO.ins (B.cl c) dx [])], F q = none),
  vs = .ref p :: ws ∧ W.B = B ∧ XOk W F E x ∧ (W.ownH F [(p, .ins (B.cl c) dx [])] oF nF).ok H ∧ Kp W.toWc F H ∧ DT (W.toWc.plus p) H ws ts ∧ P c k x ts ∧
  ∀ H' fs b, Kp (W.toWc.plus p) H H' → W.ok H' → H' p = some (.ins (B.cl c) dx fs) → FRep.fd (W.toWc.plus p) H' fs b → k b → Q .non H'
theorem init_ok {β : Type} [FRep β] {B : Bs} {P : PI β} {t : TS} {N : List Str} {vs : List V} {H : Hp} {Q : VK} {E : XK}
    (hb : ∀ (W : Wd) F p dx c ts k x, W.B = B → (∀ H', W.ok H' → W.wish H' → XOk W H' E x) → P c k x ts →
      SxH W F t [(p, .ins (W.B.cl c) dx [])] (some (T (Oi.mk p c dx [] ())) :: (ts.map some ++ List.replicate (N.length - (ts.length + 1)) none)) { nx := fun L Γ => ∃ fs b, L = [(p, .ins (W.B.cl c) dx fs)] ∧ Γ[0]? = some (some (T (Oi.mk p c dx fs b))) ∧ k b, rt := fun _ => False })
    (h : spIn B P vs H Q E) : t { nx := fun _ H' => Q .non H', rt := Q } (L2.start N vs) H := by
  obtain ⟨W, F, p, dx, c, ws, ts, k, x, oF, nF, rfl, hB, hx, ho, hw, hd, hp, hq⟩ := h
  subst hB
  have nF' : ∀ q ∈ keysH [(p, HO.ins ((W.wth E x).B.cl c) dx [])], F q = none := nF
  have ho' : ((W.wth E x).ownH F [(p, .ins ((W.wth E x).B.cl c) dx [])] oF nF').ok H := ho
  refine hb (W.wth E x) F p dx c ts k x rfl (fun H' _ w n d2 H2 e z q => w n d2 H2 e.wth z q) hp _ _ H oF nF' hx (List.nodup_cons.mpr ⟨fun z => (nomatch z), .nil⟩) ?_ ?_
  · have hd' : DT ((W.wth E x).ownH F [(p, .ins ((W.wth E x).B.cl c) dx [])] oF nF').toWc H (.ref p :: ws) (T (Oi.mk p c dx [] ()) :: ts) := .cons (t := T (Oi.mk p c dx [] ())) ⟨rfl, rfl⟩ hd
    have := start_ok (N := N) ho' hw hd'
    exact this
  · refine ⟨fun L' oF' nF2 σ' H' Γ' s nd' G ⟨fs, b, hL, hG, kb⟩ => ?_, fun v H' t e d z => z.elim, fun _ _ _ _ _ _ _ _ _ z => z.elim, fun _ _ _ _ _ _ _ _ _ z => z.elim⟩
    subst hL
    obtain ⟨_, h2⟩ := oi_at G hG
    exact hq H' fs b s.1 G.ok.1 (G.ok.2 _ List.mem_cons_self) h2 kb
/-- fixed arguments, then the rest of one kind -/
def EvS {α : Type} [Rep α] (W : Wd) (n : Nat) (ta : TA) (Γ : Gam) (k : List Ty → List α → Prop) : Prop :=
  ∀ σ H (Q : List V → Hp → Prop), GOk W H σ Γ → (∀ ws rest H' ts (as : List α), Ext W H H' → ws.length = n → DT W H' ws ts → Dl (den W H') rest as → k ts as → Q (ws ++ rest) H') → ta σ H Q
section
variable {W : Wd} {Γ : Gam} {ta tr : TA} {te : TE} {K : PySem.W.Frag} {B : Bs}
theorem es_zero {α : Type} {rα : Rep α} {k : List Ty → List α → Prop} (h : EvL W ta Γ fun as : List α => k [] as) : EvS W 0 ta Γ k := fun σ H Q G c =>
  h σ H _ G fun vs H1 as e d q => c [] vs H1 [] as e rfl .nil d q
theorem es_cons {α β : Type} {rα : Rep α} {rβ : Rep β} {n : Nat} {k : List Ty → List α → Prop} (h : EvK W te Γ fun a : β => EvS W n tr Γ fun ts as => k (T a :: ts) as) : EvS W (n + 1) (tCons te tr) Γ k := fun σ H Q G c =>
  h σ H _ G fun v H1 a e1 d z => z σ H1 _ (G.ext e1) fun ws rest H2 ts as e2 hl hd hr q =>
    c (v :: ws) rest H2 (T a :: ts) as (e1.trans e2) (congrArg (· + 1) hl) (.cons (t := T a) (Rep.mono (a := a) e2.keep d) hd) hr q
/-- *xs ahead of further arguments -/
theorem el_star {α : Type} {rα : Rep α} {k : List α → Prop} (hK : W.B.K = K) (h : EvK W te Γ fun l : List α => EvL W tr Γ fun as => k (l ++ as)) : EvL W (tStar K te tr) Γ k := by
  subst hK
  refine fun σ H Q G c => h σ H _ G fun v H1 l e1 ⟨p, vs, hv, hp, hd⟩ z => ?_
  exact ⟨p, vs, hv, .inr hp.sq, z σ H1 _ (G.ext e1) fun ys H2 as e2 d2 q => c _ H2 _ (e1.trans e2) ((hd.imp fun _ _ d => Rep.mono e2.keep d).append d2) q⟩
theorem el_starTl {α : Type} {rα : Rep α} {k : List α → Prop} (hK : W.B.K = K) (h : EvK W te Γ fun l : Tl α => EvL W tr Γ fun as => k (l.xs ++ as)) : EvL W (tStar K te tr) Γ k := by
  subst hK
  refine fun σ H Q G c => h σ H _ G fun v H1 l e1 ⟨p, vs, hv, hp, hd⟩ z => ?_
  exact ⟨p, vs, hv, .inl hp.sq, z σ H1 _ (G.ext e1) fun ys H2 as e2 d2 q => c _ H2 _ (e1.trans e2) ((hd.imp fun _ _ d => Rep.mono e2.keep d).append d2) q⟩
/-- a def with n fixed parameters and a star -/
def spSt (n : Nat) (sp : Sp) : Sp := fun vs H Q E => ∃ ws rest, vs = ws ++ rest ∧ ws.length = n ∧ rest.length ≤ sizeLine ∧ ∀ p, H p = none → sp (ws ++ [V.ref p]) (upd H p (.tup rest)) Q E
theorem dt_grow {H : Hp} {p : Addr} {W : Wc} : ∀ {vs : List V} {ts : List Ty}, H p = none → DT W H vs ts → DT (W.plus p) H vs ts
  | _, _, _, .nil => .nil
  | _, _, n, .cons (t := t) d r => .cons (t.r.grow p n d) (dt_grow n r)
theorem dt_snoc {W : Wc} {H : Hp} {v : V} {t : Ty} : ∀ {vs : List V} {ts : List Ty}, DT W H vs ts → t.den W H v → DT W H (vs ++ [v]) (ts ++ [t])
  | _, _, .nil, h => .cons h .nil
  | _, _, .cons d r, h => .cons d (dt_snoc r h)
/-- C(..) by an __init__ as above -/
theorem make_run {α β : Type} {rα : Rep α} {fβ : FRep β} {P : PI β} {H1 : Hp} {E : XK} {x : Xn → Prop} {k : α → Prop} {c : Cn} {ws : List V} {ts : List Ty} {Q : VK} (mk : β → α) (good : β → Prop) (hx : XOk W H1 E x) (o : W.ok H1)
    (hden : ∀ (W' : Wc) (H : Hp) (p dx : Addr) (fs : List (Str × V)) (b : β), W'.B = W.B → ¬ W'.mu p → H p = some (.ins (W.B.cl c) dx fs) → FRep.fd W' H fs b → good b → den W' H (.ref p) (mk b))
    (xx dx : Addr) (nx : H1 xx = none) (ndx : H1 dx = none) (nex : dx ≠ xx) (H2 : Hp) (e2 : Ext W (upd (upd H1 dx (.own xx)) xx (.ins (W.B.cl c) dx [])) H2) (hd : DT (W.toWc.plus xx) H2 ws ts) (hp : P c (fun b => good b ∧ k (mk b)) x ts)
    (cc : ∀ v H' (a : α), Ext W H1 H' → den W H' v a → k a → Q v H') : spIn W.B P (.ref xx :: ws) H2 (fun v H3 => v = .non ∧ Q (.ref xx) H3) E := by
  have m1 := fresh_mu o ndx
  have m2 := fresh_mu o nx
  have e3 : Ext W H1 (upd (upd H1 dx (.own xx)) xx (.ins (W.B.cl c) dx [])) := ⟨fun a u _ q => by rw [upd_ne (ne_of_none q nx), upd_ne (ne_of_none q ndx)]; exact q, W.st _ _ _ (W.st _ _ _ o m1) m2⟩
  refine ⟨W, H1, xx, dx, c, ws, ts, _, x, o, fun q hq => by rw [List.mem_singleton.mp hq]; exact nx, rfl, rfl, hx, ⟨e2.ok, fun y hy => ?_⟩, (e3.trans e2).keep, hd, hp, fun H' fs b kp ok' hH hf kb => ⟨rfl, ?_⟩⟩
  · rw [List.mem_singleton.mp hy]
    exact e2.keep xx _ m2 upd_same
  · refine cc (.ref xx) H' (mk b) ⟨fun a u m q => kp a u (fun z => z.elim m (fun z => by rw [z, nx] at q; cases q)) ((e3.trans e2).keep a u m q), ok'⟩ ?_ kb.2
    exact hden W.toWc H' xx dx fs b rfl m2 hH (FRep.shrink xx hf) kb.1
theorem ev_make {α β : Type} {rα : Rep α} {fβ : FRep β} {P : PI β} {E : L2.St → XK} {x : Xn → Prop} {k : α → Prop} {c : Cn} {C : Addr} (mk : β → α) (good : β → Prop) (hB : W.B = B) (hC : B.cl c = C) (hx : HX W Γ E x)
    (hden : ∀ (W' : Wc) (H : Hp) (p dx : Addr) (fs : List (Str × V)) (b : β), W'.B = B → ¬ W'.mu p → H p = some (.ins (B.cl c) dx fs) → FRep.fd W' H fs b → good b → den W' H (.ref p) (mk b))
    (h : EvA W ta Γ fun ts => P c (fun b => good b ∧ k (mk b)) x ts) : EvK W (tMakeZ C (spIn B P) E ta) Γ k := by
  subst hB
  subst hC
  refine fun σ H Q G cc => h σ H _ G fun vs H1 ts e1 d z xx dx nx ndx nex => ?_
  have e3 : Ext W H1 (upd (upd H1 dx (.own xx)) xx (.ins (W.B.cl c) dx [])) := ⟨fun a u _ q => by rw [upd_ne (ne_of_none q nx), upd_ne (ne_of_none q ndx)]; exact q, W.st _ _ _ (W.st _ _ _ e1.ok (fresh_mu e1.ok ndx)) (fresh_mu e1.ok nx)⟩
  refine make_run mk good (hx σ H1 (G.ext e1)) e1.ok hden xx dx nx ndx nex _ (Ext.refl e3.ok) ?_ z fun v H' a e dv q => cc v H' a (e1.trans e) dv q
  refine (dt_grow nx d).mono fun a u m q => ?_
  rw [upd_ne (ne_of_none q nx), upd_ne (ne_of_none q ndx)]
  exact q
theorem ev_makeS {α β γ : Type} {rα : Rep α} {rγ : Rep γ} {fβ : FRep β} {P : PI β} {E : L2.St → XK} {x : Xn → Prop} {k : α → Prop} {c : Cn} {C : Addr} {n : Nat} (mk : β → α) (good : β → Prop) (hB : W.B = B) (hC : B.cl c = C) (hx : HX W Γ E x)
    (hden : ∀ (W' : Wc) (H : Hp) (p dx : Addr) (fs : List (Str × V)) (b : β), W'.B = B → ¬ W'.mu p → H p = some (.ins (B.cl c) dx fs) → FRep.fd W' H fs b → good b → den W' H (.ref p) (mk b))
    (h : EvS W n ta Γ fun ts (as : List γ) => as.length ≤ 100000 ∧ P c (fun b => good b ∧ k (mk b)) x (ts ++ [T (Tl.mk as)])) : EvK W (tMakeZ C (spSt (n + 1) (spIn B P)) E ta) Γ k := by
  subst hB
  subst hC
  refine fun σ H Q G cc => h σ H _ G fun ws rest H1 ts as e1 hl d dr ⟨hlen, z⟩ xx dx nx ndx nex => ?_
  have e3 : Ext W H1 (upd (upd H1 dx (.own xx)) xx (.ins (W.B.cl c) dx [])) := ⟨fun a u _ q => by rw [upd_ne (ne_of_none q nx), upd_ne (ne_of_none q ndx)]; exact q, W.st _ _ _ (W.st _ _ _ e1.ok (fresh_mu e1.ok ndx)) (fresh_mu e1.ok nx)⟩
  refine ⟨.ref xx :: ws, rest, rfl, congrArg (· + 1) hl, Nat.le_trans (by rw [dr.length]; exact hlen) (by decide : 100000 ≤ sizeLine), fun p hp => ?_⟩
  have e4 := Ext.new (o := .tup rest) e3.ok hp
  have hpx : p ≠ xx := fun e => by rw [e, upd_same] at hp; cases hp
  have kk : Kp (W.toWc.plus xx) H1 (upd (upd (upd H1 dx (.own xx)) xx (.ins (W.B.cl c) dx [])) p (.tup rest)) := fun a u m q => (e3.trans e4).keep a u (fun z => m (.inl z)) q
  refine make_run (ws := ws ++ [V.ref p]) mk good (hx σ H1 (G.ext e1)) e1.ok hden xx dx nx ndx nex _ e4 ?_ z fun v H' a e dv q => cc v H' a (e1.trans e) dv q
  refine dt_snoc ((dt_grow nx d).mono kk) ⟨p, rest, rfl, ⟨fun z => z.elim (fresh_mu e3.ok hp) hpx, upd_same⟩, ?_⟩
  exact dr.imp fun _ _ y => Rep.mono kk (Rep.grow xx nx y)
end
section
variable {W : Wd} {F : Hp} {L : OwnH} {Γ : Gam} {R : PoH} {tr : TA}
/-- C0.__init__(self, ..), self new: the fields of C0 are set -/
theorem sxh_cinit {β : Type} {fβ : FRep β} {P : PI β} {B : Bs} {E : L2.St → XK} {x : Xn → Prop} {p dx : Addr} {c : Cn} {i : Nat} (hL : L = [(p, .ins (W.B.cl c) dx [])]) (hi : Γ[i]? = some (some (T (Oi.mk p c dx [] ())))) (hB : W.B = B)
    (hx : ∀ H', W.ok H' → W.wish H' → ∀ σ, XOk W H' (E σ) x)
    (h : ∀ Wo, OwnHW W L Wo → EvA Wo tr Γ fun ts => P c (fun b => ∀ fs, R.nx [(p, .ins (W.B.cl c) dx fs)] (Γ.set i (some (T (Oi.mk p c dx fs b))))) x ts) : SxH W F (tDrop (tCallZ (spIn B P) E (tCons (tVar i) tr))) L Γ R := by
  subst hB
  subst hL
  refine fun D σ H oF nF wF nd G O => ?_
  obtain ⟨h1, _⟩ := oi_at G hi
  refine ⟨_, h1, ?_⟩
  refine h _ (ownH_w wF) σ H _ G fun vs H1 ts e1 d z => ?_
  have G1 := G.ext e1
  refine ⟨W, F, p, dx, c, vs, ts, _, x, oF, nF, rfl, rfl, hx F oF wF σ, G1.ok, G1.wish, d, z, fun H' fs b kp ok' hH hf kb => ?_⟩
  have nFp : F p = none := nF p List.mem_cons_self
  have nF' : ∀ q ∈ keysH [(p, HO.ins (W.B.cl c) dx fs)], F q = none := nF
  have s : StpH W [(p, .ins (W.B.cl c) dx [])] H [(p, .ins (W.B.cl c) dx fs)] H' := ⟨fun a u m q => kp a u m (e1.keep a u m q), fun q hq => .inl hq⟩
  have hl : i < Γ.length := (List.getElem?_eq_some_iff.mp hi).1
  refine O.nx _ oF nF' σ H' _ s (List.nodup_cons.mpr ⟨fun z => (nomatch z), .nil⟩) ⟨⟨ok', fun y hy => ?_⟩, fun a u m q => ?_, fun j t ht => ?_, by rw [List.length_set]; exact G1.len⟩ (kb fs)
  · rw [List.mem_singleton.mp hy]
    exact hH
  · exact kp a u (fun z => z.elim m fun z => by rw [z, nFp] at q; cases q) (G1.wish a u m q)
  · by_cases e : i = j
    · subst e
      rw [List.getElem?_set_self hl] at ht
      cases ht
      exact ⟨_, h1, rfl, hf⟩
    · rw [List.getElem?_set_ne e] at ht
      obtain ⟨v, h3, h4⟩ := G1.at_ j t ht
      exact ⟨v, h3, Ty.mono kp h4⟩
end
end G
set_option Elab.async false
set_option linter.all false
set_option maxRecDepth 100000
set_option maxHeartbeats 2000000
namespace G
open PySem PySem.Spec PyProof.Rows L2 StX
/-! ### rules as data -/
inductive RK where
  | leaf | rank | trim | weigh
  deriving DecidableEq
def RK.cn : RK → Cn
  | .leaf => .Leaf
  | .rank => .Rank
  | .trim => .Trim
  | .weigh => .Weigh
inductive Ru where
  | mk (k : RK) (lb : Str) (ns : List Int) (ps : List Ru) (rk : Bool)
def Ru.k : Ru → RK | .mk k _ _ _ _ => k
def Ru.lb : Ru → Str | .mk _ l _ _ _ => l
def Ru.ns : Ru → List Int | .mk _ _ n _ _ => n
def Ru.ps : Ru → List Ru | .mk _ _ _ p _ => p
def Ru.rk : Ru → Bool | .mk _ _ _ _ r => r
/-- what the text says of a class of rules -/
structure RcT (B : Bs) (k : RK) : Prop where
  cl : L2.Cls B.K (B.cl k.cn)
  nlabel : NoAttr B.K (B.cl k.cn) "label"
  nnumbers : NoAttr B.K (B.cl k.cn) "numbers"
  nparts : NoAttr B.K (B.cl k.cn) "parts"
  nranked : NoAttr B.K (B.cl k.cn) "ranked"
def ruF (lb : Str) (tn tp : Addr) (rk : Bool) : List (Str × V) := [("label", .str lb), ("numbers", .ref tn), ("parts", .ref tp), ("ranked", .bl rk)]
mutual
def ruD (W : Wc) (H : Hp) (v : V) : Ru → Prop
  | .mk k lb ns ps rk => ∃ a dx tn tp vs, v = .ref a ∧ ¬ W.mu a ∧ H a = some (.ins (W.B.cl k.cn) dx (ruF lb tn tp rk)) ∧ Tq W H tn (ns.map V.int) ∧ Tq W H tp vs ∧ RcT W.B k ∧ ruL W H vs ps
def ruL (W : Wc) (H : Hp) (vs : List V) : List Ru → Prop
  | [] => vs = []
  | p :: ps => ∃ v r, vs = v :: r ∧ ruD W H v p ∧ ruL W H r ps
end
mutual
theorem ruD_mono {W : Wc} {H H' : Hp} (e : Kp W H H') : ∀ (v : V) (r : Ru), ruD W H v r → ruD W H' v r
  | v, .mk k lb ns ps rk, h => by
    unfold ruD at h ⊢
    obtain ⟨a, dx, tn, tp, vs, hv, m, hH, h1, h2, hc, h3⟩ := h
    exact ⟨a, dx, tn, tp, vs, hv, m, e _ _ m hH, h1.mono e, h2.mono e, hc, ruL_mono e _ _ h3⟩
theorem ruL_mono {W : Wc} {H H' : Hp} (e : Kp W H H') : ∀ (vs : List V) (r : List Ru), ruL W H vs r → ruL W H' vs r
  | vs, [], h => by unfold ruL at h ⊢; exact h
  | vs, p :: ps, h => by
    unfold ruL at h ⊢
    obtain ⟨v, r, hv, h1, h2⟩ := h
    exact ⟨v, r, hv, ruD_mono e _ _ h1, ruL_mono e _ _ h2⟩
end
mutual
theorem ruD_grow {W : Wc} {H : Hp} (D : Addr) (n : H D = none) : ∀ (v : V) (r : Ru), ruD W H v r → ruD (W.plus D) H v r
  | v, .mk k lb ns ps rk, h => by
    unfold ruD at h ⊢
    obtain ⟨a, dx, tn, tp, vs, hv, m, hH, h1, h2, hc, h3⟩ := h
    exact ⟨a, dx, tn, tp, vs, hv, mu_grow n m hH, hH, h1.grow D n, h2.grow D n, hc, ruL_grow D n _ _ h3⟩
theorem ruL_grow {W : Wc} {H : Hp} (D : Addr) (n : H D = none) : ∀ (vs : List V) (r : List Ru), ruL W H vs r → ruL (W.plus D) H vs r
  | vs, [], h => by unfold ruL at h ⊢; exact h
  | vs, p :: ps, h => by
    unfold ruL at h ⊢
    obtain ⟨v, r, hv, h1, h2⟩ := h
    exact ⟨v, r, hv, ruD_grow D n _ _ h1, ruL_grow D n _ _ h2⟩
end
mutual
theorem ruD_shrink {W : Wc} {H : Hp} (D : Addr) : ∀ (v : V) (r : Ru), ruD (W.plus D) H v r → ruD W H v r
  | v, .mk k lb ns ps rk, h => by
    unfold ruD at h ⊢
    obtain ⟨a, dx, tn, tp, vs, hv, m, hH, h1, h2, hc, h3⟩ := h
    exact ⟨a, dx, tn, tp, vs, hv, fun z => m (.inl z), hH, h1.shrink D, h2.shrink D, hc, ruL_shrink D _ _ h3⟩
theorem ruL_shrink {W : Wc} {H : Hp} (D : Addr) : ∀ (vs : List V) (r : List Ru), ruL (W.plus D) H vs r → ruL W H vs r
  | vs, [], h => by unfold ruL at h ⊢; exact h
  | vs, p :: ps, h => by
    unfold ruL at h ⊢
    obtain ⟨v, r, hv, h1, h2⟩ := h
    exact ⟨v, r, hv, ruD_shrink D _ _ h1, ruL_shrink D _ _ h2⟩
end
instance : Rep Ru := ⟨ruD, fun e h => ruD_mono e _ _ h, fun D n h => ruD_grow D n _ _ h, fun D h => ruD_shrink D _ _ h⟩
theorem ruL_dl {W : Wc} {H : Hp} : ∀ {vs : List V} {ps : List Ru}, ruL W H vs ps ↔ Dl (den W H) vs ps
  | vs, [] => by
    unfold ruL
    constructor
    · rintro rfl; exact .nil
    · intro h; cases h; rfl
  | vs, p :: ps => by
    unfold ruL
    constructor
    · rintro ⟨v, r, rfl, h1, h2⟩
      exact .cons h1 (ruL_dl.mp h2)
    · intro h
      cases h with
      | cons h1 h2 => exact ⟨_, _, rfl, h1, ruL_dl.mpr h2⟩
theorem ru_den {W : Wc} {H : Hp} {v : V} {r : Ru} : den W H v r ↔ ∃ a dx tn tp vs, v = .ref a ∧ ¬ W.mu a ∧ H a = some (.ins (W.B.cl r.k.cn) dx (ruF r.lb tn tp r.rk)) ∧ Tq W H tn (r.ns.map V.int) ∧ Tq W H tp vs ∧ RcT W.B r.k ∧ Dl (den W H) vs r.ps := by
  obtain ⟨k, lb, ns, ps, rk⟩ := r
  show ruD W H v _ ↔ _
  unfold ruD
  constructor
  · rintro ⟨a, dx, tn, tp, vs, h1, h2, h3, h4, h5, hc, h6⟩
    exact ⟨a, dx, tn, tp, vs, h1, h2, h3, h4, h5, hc, ruL_dl.mp h6⟩
  · rintro ⟨a, dx, tn, tp, vs, h1, h2, h3, h4, h5, hc, h6⟩
    exact ⟨a, dx, tn, tp, vs, h1, h2, h3, h4, h5, hc, ruL_dl.mpr h6⟩
theorem rf1 (lb : Str) (tn tp : Addr) (rk : Bool) : (ruF lb tn tp rk).lookup ("label" : Str) = some (.str lb) := by simp [ruF, List.lookup]
theorem rf2 (lb : Str) (tn tp : Addr) (rk : Bool) : (ruF lb tn tp rk).lookup ("numbers" : Str) = some (.ref tn) := by
  have h1 : (("numbers" : Str) == "label") = false := by decide +kernel
  simp [ruF, List.lookup, h1]
theorem rf3 (lb : Str) (tn tp : Addr) (rk : Bool) : (ruF lb tn tp rk).lookup ("parts" : Str) = some (.ref tp) := by
  have h1 : (("parts" : Str) == "label") = false := by decide +kernel
  have h2 : (("parts" : Str) == "numbers") = false := by decide +kernel
  simp [ruF, List.lookup, h1, h2]
theorem rf4 (lb : Str) (tn tp : Addr) (rk : Bool) : (ruF lb tn tp rk).lookup ("ranked" : Str) = some (.bl rk) := by
  have h1 : (("ranked" : Str) == "label") = false := by decide +kernel
  have h2 : (("ranked" : Str) == "numbers") = false := by decide +kernel
  have h3 : (("ranked" : Str) == "parts") = false := by decide +kernel
  simp [ruF, List.lookup, h1, h2, h3]
/-- data that stand for an object, of one of several classes -/
class VIns (β : Type) [Rep β] (fl : outParam (List Str)) where
  kn : β → Cn
  at_ : ∀ {W : Wc} {H : Hp} {v : V} {b : β}, den W H v b → ∃ a dx fs, v = .ref a ∧ ¬ W.mu a ∧ H a = some (.ins (W.B.cl (kn b)) dx fs) ∧ fs.map (·.1) = fl
instance : VIns Ru ["label", "numbers", "parts", "ranked"] := ⟨fun r => r.k.cn, fun h => by
  obtain ⟨a, dx, tn, tp, vs, h1, h2, h3, _⟩ := ru_den.mp h
  exact ⟨a, dx, _, h1, h2, h3, rfl⟩⟩
section
variable {W : Wd} {Γ : Gam} {te to : TE} {ta : TA} {K : PySem.W.Frag}
theorem ev_rlabel {k : Str → Prop} (hK : W.B.K = K) (h : EvK W te Γ fun r : Ru => k r.lb) : EvK W (tFld K te "label") Γ k := by
  subst hK
  refine fun σ H Q E c => h σ H _ E fun v H1 r e1 d z => ?_
  obtain ⟨a, dx, tn, tp, vs, hv, m, hH, h4, h5, hR, h6⟩ := ru_den.mp d
  exact ⟨a, _, dx, _, _, hv, hH, hR.cl, hR.nlabel, rf1 _ _ _ _, c _ H1 _ e1 rfl z⟩
theorem ev_rranked {k : Bool → Prop} (hK : W.B.K = K) (h : EvK W te Γ fun r : Ru => k r.rk) : EvK W (tFld K te "ranked") Γ k := by
  subst hK
  refine fun σ H Q E c => h σ H _ E fun v H1 r e1 d z => ?_
  obtain ⟨a, dx, tn, tp, vs, hv, m, hH, h4, h5, hR, h6⟩ := ru_den.mp d
  exact ⟨a, _, dx, _, _, hv, hH, hR.cl, hR.nranked, rf4 _ _ _ _, c _ H1 _ e1 rfl z⟩
theorem ev_rnums {k : Tl Int → Prop} (hK : W.B.K = K) (h : EvK W te Γ fun r : Ru => k ⟨r.ns⟩) : EvK W (tFld K te "numbers") Γ k := by
  subst hK
  refine fun σ H Q E c => h σ H _ E fun v H1 r e1 d z => ?_
  obtain ⟨a, dx, tn, tp, vs, hv, m, hH, h4, h5, hR, h6⟩ := ru_den.mp d
  exact ⟨a, _, dx, _, _, hv, hH, hR.cl, hR.nnumbers, rf2 _ _ _ _, c _ H1 _ e1 ⟨tn, _, rfl, h4, Dl.of_ints _⟩ z⟩
theorem ev_rparts {k : Tl Ru → Prop} (hK : W.B.K = K) (h : EvK W te Γ fun r : Ru => k ⟨r.ps⟩) : EvK W (tFld K te "parts") Γ k := by
  subst hK
  refine fun σ H Q E c => h σ H _ E fun v H1 r e1 d z => ?_
  obtain ⟨a, dx, tn, tp, vs, hv, m, hH, h4, h5, hR, h6⟩ := ru_den.mp d
  exact ⟨a, _, dx, _, _, hv, hH, hR.cl, hR.nparts, rf3 _ _ _ _, c _ H1 _ e1 ⟨tp, _, rfl, h5, h6⟩ z⟩
/-- o.m(..) by the class of o -/
theorem ev_methW {α β : Type} {rα : Rep α} {rβ : Rep β} {fl : List Str} [vβ : VIns β fl] {B : Bs} {m : Str} {S : Addr → Sp → Prop} {E : L2.St → XK} {x : Xn → Prop} {k : α → Prop} (hB : W.B = B) (hx : HX W Γ E x) (hm : m ∉ fl)
    (h : EvK W to Γ fun g : β => ∃ P : PT, S (B.cl (VIns.kn g)) (spG B P) ∧ EvA W ta Γ fun ts => P (fun t => ∃ a : α, t = T a ∧ k a) x (T g :: ts)) : EvK W (tMethV m S E to ta) Γ k := by
  subst hB
  refine fun σ H Q G c => h σ H _ G fun v H1 g e1 d ⟨P, hS, z⟩ => ?_
  obtain ⟨p, dp, fs, hv, hmu, hH, hfl⟩ := VIns.at_ d
  refine ⟨p, dp, fs, _, _, hv, hH, look_none (by rw [hfl]; exact hm), hS, ?_⟩
  refine z σ H1 _ (G.ext e1) fun vs H2 ts e2 d2 z2 => ?_
  exact ⟨W, _, _, x, rfl, e2.ok, .cons (t := T g) (Rep.mono e2.keep d) d2, z2, fun v H3 t e3 dt ⟨a, ea, q⟩ => by
    subst ea
    exact c v H3 a ((e1.trans e2).trans e3) dt q, hx σ H2 ((G.ext e1).ext e2)⟩
theorem evF_methW {β γ : Type} {rβ : Rep β} {rγ : Rep γ} {fl : List Str} [vβ : VIns β fl] {B : Bs} {m : Str} {S : Addr → Sp → Prop} {E : L2.St → XK} {k : List γ → Prop} (hB : W.B = B) (hm : m ∉ fl)
    (h : EvK W to Γ fun g : β => ∃ P : PF γ, S (B.cl (VIns.kn g)) (spFr B P) ∧ EvA W ta Γ fun ts => P k (T g :: ts)) : EvF W (tMethV m S E to ta) Γ k := by
  subst hB
  refine fun σ H Q G c => h σ H _ G fun v H1 g e1 d ⟨P, hS, z⟩ => ?_
  obtain ⟨p, dp, fs, hv, hmu, hH, hfl⟩ := VIns.at_ d
  refine ⟨p, dp, fs, _, _, hv, hH, look_none (by rw [hfl]; exact hm), hS, ?_⟩
  refine z σ H1 _ (G.ext e1) fun vs H2 ts e2 d2 z2 => ?_
  have G2 := (G.ext e1).ext e2
  exact ⟨W, _, k, rfl, e2.ok, G2.wish, .cons (t := T g) (Rep.mono e2.keep d) d2, z2, fun q H3 ws bs hn e3 hq hd kk =>
    c q H3 ws bs (fresh_back e1.ok e1 (fresh_back e2.ok e2 hn)) ((e1.trans e2).trans e3) hq hd kk⟩
/-- iteration over a tuple -/
theorem ei_tup {α : Type} {rα : Rep α} {k : List α → Prop} (hK : W.B.K = K) (h : EvK W te Γ fun as : Tl α => k as.xs) : EvI W (iTup K te) Γ k := by
  subst hK
  refine fun σ H R G c => h σ H _ G fun v H1 as e1 ⟨p, xs, hv, hp, hd⟩ z => ⟨p, hv, ⟨xs, hp.sq⟩, c _ H1 as.xs e1 ⟨?_, ?_, ?_⟩ z⟩
  · intro i H' kp hi
    rw [← hd.length] at hi
    exact ⟨xs, xs[i], (hp.mono kp).sq, List.getElem?_eq_getElem hi⟩
  · intro H' kp
    exact ⟨xs, (hp.mono kp).sq, by rw [hd.length]; exact Nat.le_refl _⟩
  · rintro i H' x H'' kp _ hi ⟨rfl, hx⟩
    obtain ⟨a, ea, da⟩ := hd.at (hx xs (hp.mono kp).sq)
    exact ⟨a, ea, .inl rfl, Rep.mono kp da, fun D o nD _ => Rep.mono (W := W.toWc.plus D) (fun b o mb z => kp b o (fun q => mb (.inl q)) z) (Rep.grow D nD da)⟩
/-- tuple(x) -/
theorem ev_tupL {α : Type} {rα : Rep α} {k : Tl α → Prop} (hK : W.B.K = K) (h : EvK W te Γ fun l : List α => k ⟨l⟩) : EvK W (tThen te (kTup K)) Γ k := by
  subst hK
  refine fun σ H Q G c => h σ H _ G fun v H1 l e1 ⟨p, xs, hv, hp, hd⟩ z => .inl ⟨p, xs, hv, hp.sq, fun q hq => ?_⟩
  have e2 := Ext.new (o := .tup xs) e1.ok hq
  exact c (.ref q) _ ⟨l⟩ (e1.trans e2) ⟨q, xs, rfl, Tq.new (fresh_mu e1.ok hq) upd_same, hd.imp fun _ _ d => Rep.mono e2.keep d⟩ z
theorem ev_tupT {α : Type} {rα : Rep α} {k : Tl α → Prop} (hK : W.B.K = K) (h : EvK W te Γ fun l : Tl α => k l) : EvK W (tThen te (kTup K)) Γ k := by
  subst hK
  exact fun σ H Q G c => h σ H _ G fun v H1 l e1 ⟨p, xs, hv, hp, hd⟩ z => .inr ⟨p, xs, hv, hp.sq, hv ▸ c v H1 l e1 ⟨p, xs, hv, hp, hd⟩ z⟩
theorem ev_tupN {α : Type} {rα : Rep α} {ta : TA} {k : Tl α → Prop} (h : EvL W ta Γ fun as : List α => as.length ≤ 100000 ∧ k ⟨as⟩) : EvK W (tTup ta) Γ k := by
  refine fun σ H Q G c => h σ H _ G fun vs H1 as e1 d ⟨hl, z⟩ => ⟨by rw [d.length]; exact Nat.le_trans hl (by decide), fun q hq => ?_⟩
  have e2 := Ext.new (o := .tup vs) e1.ok hq
  exact c (.ref q) _ ⟨as⟩ (e1.trans e2) ⟨q, vs, rfl, Tq.new (fresh_mu e1.ok hq) upd_same, d.imp fun _ _ d => Rep.mono e2.keep d⟩ z
/-- t[i], t a tuple of one kind -/
theorem ev_ixTl {α : Type} {rα : Rep α} {ta tb : TE} {k : α → Prop} (hK : W.B.K = K) (h : EvK W ta Γ fun as : Tl α => EvK W tb Γ fun i : Int => ∃ a, atI as.xs i = some a ∧ k a) : EvK W (tOp (rIxT K) ta tb) Γ k := by
  subst hK
  refine ev_two (h.imp fun as ha => ha.imp fun i ⟨a, hi, z⟩ x y H Q o dx dy c => ?_)
  obtain ⟨p, vs, rfl, hp, hd⟩ := dx
  have e : ∃ v, atI vs i = some v ∧ den W H v a := by
    unfold atI at hi ⊢
    rw [hd.length]
    cases q : ixN as.xs.length i with
    | none => rw [q] at hi; cases hi
    | some j =>
      rw [q, Option.bind_some] at hi
      rw [Option.bind_some]
      exact hd.at' hi
  obtain ⟨v, hv, dv⟩ := e
  exact ⟨p, vs, i, v, rfl, dy, hp.sq, hv, c _ H a (Ext.refl o) dv z⟩
end
/-! ### a new rule -/
abbrev RuB := Fd Bool × (Fd (Tl Ru) × (Fd (Tl Int) × (Fd Str × Unit)))
def ruMk (k : RK) (b : RuB) : Ru := .mk k b.2.2.2.1.a b.2.2.1.a.xs b.2.1.a.xs b.1.a
def ruB (lb : Str) (ns : List Int) (ps : List Ru) (rk : Bool) : RuB := (⟨"ranked", rk⟩, ⟨"parts", ⟨ps⟩⟩, ⟨"numbers", ⟨ns⟩⟩, ⟨"label", lb⟩, ())
theorem ru_hden {B : Bs} {kd : RK} (hc : RcT B kd) (W' : Wc) (H : Hp) (p dx : Addr) (fs : List (Str × V)) (b : RuB) (hB : W'.B = B) (m : ¬ W'.mu p) (hH : H p = some (.ins (B.cl kd.cn) dx fs)) (hf : FRep.fd W' H fs b) (hg : ∃ lb ns ps rk, b = ruB lb ns ps rk) : den W' H (.ref p) (ruMk kd b) := by
  obtain ⟨lb, ns, ps, rk, rfl⟩ := hg
  obtain ⟨v1, r1, e1, ⟨rfl⟩, v2, r2, e2, ⟨tp, vp, h2, h3, h4⟩, v3, r3, e3, ⟨tn, vn, h5, h6, h7⟩, v4, r4, e4, ⟨rfl⟩, e5⟩ := hf
  subst hB
  refine ru_den.mpr ⟨p, dx, tn, tp, vp, rfl, m, ?_, ?_, h3, hc, h4⟩
  · have e5 : r4 = [] := e5
    rw [hH, e1, e2, e3, e4, e5, h2, h5]
    rfl
  · have : vn = ns.map V.int := Dl.ints h7
    show Tq W' H tn (ns.map V.int)
    rw [← this]
    exact h6
end G
set_option Elab.async false
set_option linter.all false
set_option maxRecDepth 100000
set_option maxHeartbeats 2000000
namespace G
open PySem PySem.Spec PyProof.Rows L2 StX
/-! ### calls with a star behind fixed arguments -/
section
variable {X : Cx} {CX : CXT} {k i : Nat} {f C : Addr} {sp : Sp} {E : L2.St → XK} {x : Str} {e : Expr} {es : List Expr} {t : TA} {pp pos : Pos}
/-- x(e, .., *y), x a local name that holds the class at C -/
theorem pe_makeV2 {i : Nat} (M : Mk X.K C f) (F : FnR X.prog X.w X.K X.mg X.base CX k f sp) (hr : Room (k + 1) X.A) (hx : ∀ σ, PassesAt CX X σ (E σ)) (hN : X.N[i]? = some x) (hv : Vis X.env.scope x)
    (ha : PA X (e :: es) t) (hdb : (x == ("__debug__" : Str)) = false := by decide) (hcd : (x == ("__classdict__" : Str)) = false := by decide) (he : starEach (e :: es) X.env = (false, eval e X.env) :: starEach es X.env := by rfl) (hst : (backTo pos (starEach es X.env)).any (·.1) = true := by rfl) :
    PE X (.Call (.Name x pp) (e :: es) [] pos) (tMakeV i C sp E t) := by
  refine ⟨fun pins s σ H Q I h => ?_⟩
  obtain ⟨v, h1, h2, h3⟩ := h
  subst h2
  refine wpAny_Call_Name_kw (thn ((pe_var (pos := pp) hN hv hdb hcd).run pins s σ H (fun v H' => v = .ref C ∧ tMakeZ C sp E t σ H' Q) I ⟨_, h1, rfl, h3⟩) fun u s1 ⟨y, H1, I1, ry, ey, q⟩ => ?_)
  subst ey
  obtain rfl : u = Value.ref C := ry
  exact PySem.W.callWith_S2 (h₀ := X.base) I1.ok.mod.kin M.kp (thn (ha.run pos pins s1 σ H1 _ I1 q) fun us s2 ⟨vs, H2, I2, r, q2⟩ => ⟨I2.kIn, run_makeZ M F hr (hx σ) I2 r q2⟩) he hst
/-- C(e, .., *y) -/
theorem pe_makeZ2 (M : Mk X.K C f) (F : FnR X.prog X.w X.K X.mg X.base CX k f sp) (hr : Room (k + 1) X.A) (hg : Gl X x) (hm : X.mg x = some (.ref C)) (hx : ∀ σ, PassesAt CX X σ (E σ))
    (ha : PA X (e :: es) t) (hdb : (x == ("__debug__" : Str)) = false := by decide) (he : starEach (e :: es) X.env = (false, eval e X.env) :: starEach es X.env := by rfl) (hst : (backTo pos (starEach es X.env)).any (·.1) = true := by rfl) :
    PE X (.Call (.Name x pp) (e :: es) [] pos) (tMakeZ C sp E t) := by
  refine ⟨fun pins s σ H Q I h => ?_⟩
  refine wpAny_Call_Name_kw (ld_glob I hg hm ?_ hdb)
  exact PySem.W.callWith_S2 (h₀ := X.base) I.ok.mod.kin M.kp (thn (ha.run pos pins s σ H _ I h) fun us s2 ⟨vs, H2, I2, r, q2⟩ => ⟨I2.kIn, run_makeZ M F hr (hx σ) I2 r q2⟩) he hst
end
theorem pa_starK {X : Cx} {e : Expr} {es : List Expr} {te : TE} {t : TA} {p : Pos} (K : PySem.W.Frag) (he : PE X e te) (hr : PA X es t) (hK : X.K = K := by rfl) (hs : starEach (.Starred e p :: es) X.env = (true, eval e X.env) :: starEach es X.env := by rfl) : PA X (.Starred e p :: es) (tStar K te t) := by
  subst hK
  exact pa_star he hr hs
theorem pe_tupleOfK {X : Cx} {a : Expr} {ta : TE} {p pos : Pos} (K : PySem.W.Frag) (hg : Gl X "tuple") (hm : X.mg "tuple" = none) (ha : PE X a ta) (hK : X.K = K := by rfl) (na : starEach [a] X.env = (false, eval a X.env) :: starEach [] X.env := by rfl) :
    PE X (.Call (.Name "tuple" p) [a] [] pos) (tThen ta (kTup K)) := by
  subst hK
  exact pe_tupleOf hg hm ha na
theorem ps_fldK {X : Cx} {o e : Expr} {to tv : TE} {f : Str} {pos pos' : Pos} (K : PySem.W.Frag) (ho : PE X o to) (hv : PE X e tv) (hs : swapsWith e (some (.Attribute o f pos')) pos.line X.env = pure false := by rfl) (hK : X.K = K := by rfl) : PS X (.Assign [.Attribute o f pos'] e pos) (sFld K to tv f) := by
  subst hK
  exact ps_fld ho hv hs
theorem defS2 {K : PySem.W.Frag} {name qual p1 p2 pv : Str} {st : Stmt} {f : Addr} {fd : FuncData} (F : Fun K name qual st f fd) (h0 : ∀ a b, bindArgs fd ⟨[a, b], []⟩ = (newTuple [] >>= fun t => pure [(p1, a), (p2, b), (pv, t)])) (h1 : ∀ a b r rs, bindArgs fd ⟨a :: b :: r :: rs, []⟩ = (newTuple (r :: rs) >>= fun t => pure [(p1, a), (p2, b), (pv, t)])) :
    DefS K name qual st [p1, p2] pv f := ⟨fd, F, bind_star2 (B := fun us => bindArgs fd ⟨us, []⟩) h0 h1⟩
section
variable {W : Wd} {Γ : Gam} {ta : TA} {te tb tc to : TE} {K : PySem.W.Frag} {B : Bs} {C : Addr} {P : PT} {E : L2.St → XK} {x : Xn → Prop}
/-- C.m(.., *y) of a class method with a star parameter behind n fixed ones -/
theorem ev_cmethS {α γ : Type} {rα : Rep α} {rγ : Rep γ} {n : Nat} {k : α → Prop} (c : Cn) (hB : W.B = B) (hC : B.cl c = C) (hx : HX W Γ E x) (h : EvS W n ta Γ fun ts (as : List γ) => as.length ≤ 100000 ∧ P (fun t => ∃ a : α, t = T a ∧ k a) x (T (Cv.mk c) :: (ts ++ [T (Tl.mk as)]))) : EvK W (tCMethZ C (spSt (n + 1) (spG B P)) E ta) Γ k := by
  subst hB
  subst hC
  refine fun σ H Q G q => h σ H _ G fun ws rest H1 ts as e1 hl d dr ⟨hlen, z⟩ => ?_
  refine ⟨.ref (W.B.cl c) :: ws, rest, rfl, congrArg (· + 1) hl, Nat.le_trans (by rw [dr.length]; exact hlen) (by decide : 100000 ≤ sizeLine), fun p hp => ?_⟩
  have e2 := Ext.new (o := .tup rest) e1.ok hp
  refine ⟨W, _, _, x, rfl, e2.ok, .cons (t := T (Cv.mk c)) rfl (dt_snoc (t := T (Tl.mk as)) (d.mono e2.keep) ⟨p, rest, rfl, Tq.new (fresh_mu e1.ok hp) upd_same, dr.imp fun _ _ y => Rep.mono e2.keep y⟩), z, fun v H2 t e3 dt ⟨a, ea, qq⟩ => ?_, hx σ _ ((G.ext e1).ext e2)⟩
  subst ea
  exact q v H2 a ((e1.trans e2).trans e3) dt qq
theorem ev_lenTl {α : Type} {rα : Rep α} {k : Int → Prop} (hK : W.B.K = K) (h : EvK W te Γ fun as : Tl α => k (as.xs.length : Int)) : EvK W (tCB (fun xs H Q => ∃ p ys, xs = [.ref p] ∧ (SqL K H p ys ∨ SqT K H p ys) ∧ Q (.int ys.length) H) (tCons te tNil)) Γ k := by
  subst hK
  refine fun σ H Q E c => h σ H _ E fun v H1 as e1 ⟨p, xs, hv, hp, hd⟩ z => ⟨p, xs, by rw [hv], .inr hp.sq, ?_⟩
  rw [hd.length]
  exact c _ H1 _ e1 rfl z
theorem sIx_nn {n d : Nat} {i : Nat} : HT.sIx n d (some (i : Int)) = min i n := by
  show (if (i : Int) < 0 then ((i : Int) + n).toNat else min (i : Int).toNat n) = _
  rw [if_neg (by omega), Int.toNat_natCast]
/-- xs[a:b] -/
theorem ev_cut {α : Type} {rα : Rep α} {k : List α → Prop} (hK : W.B.K = K) (h : EvK W te Γ fun as : List α => EvK W tb Γ fun n : Int => EvK W tc Γ fun m : Int => (0 ≤ n ∧ n ≤ m ∧ m ≤ as.length) ∧ k ((as.drop n.toNat).take (m.toNat - n.toNat))) : EvK W (tSl (rSlL K) te (tPart tb) (tPart tc)) Γ k := by
  subst hK
  refine fun σ H Q G c => h σ H _ G fun v H1 as e1 d1 h1 => ?_
  refine h1 σ H1 _ (G.ext e1) fun u H2 n e2 d2 h2 => ⟨n, d2, ?_⟩
  refine h2 σ H2 _ ((G.ext e1).ext e2) fun w H3 m e3 d3 ⟨⟨hn, hm, hl⟩, z⟩ => ⟨m, d3, ?_⟩
  obtain ⟨p, vs, hv, hp, hd⟩ := Rep.mono (W := W.toWc) (a := as) (e2.trans e3).keep d1
  refine ⟨p, vs, hv, hp.sq, fun q hq => ?_⟩
  obtain ⟨n', rfl⟩ : ∃ j : Nat, n = j := ⟨n.toNat, by omega⟩
  obtain ⟨m', rfl⟩ : ∃ j : Nat, m = j := ⟨m.toNat, by omega⟩
  have hvl := hd.length
  have e : cutV vs (some (n' : Int)) (some (m' : Int)) = (vs.drop n').take (m' - n') := by
    unfold cutV
    rw [sIx_nn, sIx_nn, Nat.min_eq_left (by omega), Nat.min_eq_left (by omega)]
  rw [e]
  rw [Int.toNat_natCast, Int.toNat_natCast] at z
  have e4 := Ext.new (o := .lst ((vs.drop n').take (m' - n'))) e3.ok hq
  exact c (.ref q) _ _ (((e1.trans e2).trans e3).trans e4) ⟨q, _, rfl, Lq.new (fresh_mu e3.ok hq) upd_same, (dl_take _ (dl_drop n' hd)).imp fun _ _ d => Rep.mono e4.keep d⟩ z
end
/-- for x in any iteration -/
theorem sx_forI {α : Type} {rα : Rep α} {W : Wd} {Γ : Gam} {wi : TI} {g : TG} {t : TS} {R : Po} (h : EvI W wi Γ fun as : List α => ∃ I : Nat → Gam → Prop, I 0 Γ ∧
      (∀ (i : Nat) (a : α) Γ', as[i]? = some a → I i Γ' → Tg W g Γ' a fun Γ1 => Sx W t Γ1 { R with nx := I (i + 1), ct := I (i + 1), bk := R.nx }) ∧ ∀ Γ', I as.length Γ' → R.nx Γ') : Sx W (tFor wi g t) Γ R := fun D σ H G O =>
  h σ H _ G fun J H1 as e1 it ⟨I, h0, hs, hl⟩ => by
    refine ⟨fun i m σ' H' => m = as.length - i ∧ i ≤ as.length ∧ ∃ Γ', Ext W H1 H' ∧ GOk W H' σ' Γ' ∧ I i Γ', ⟨_, rfl, Nat.zero_le _, Γ, Ext.refl e1.ok, G.ext e1, h0⟩, ?_⟩
    rintro i m σ' H' ⟨rfl, hi, Γ', e, G', q⟩
    by_cases hlt : i < as.length
    · refine .inr ⟨it.go i H' e.keep hlt, fun σ2 H2 => ∃ Γ2, Ext W H1 H2 ∧ GOk W H2 σ2 Γ2 ∧ I (i + 1) Γ2, fun σ2 H2 ⟨Γ2, e2, G2, q2⟩ => ⟨as.length - (i + 1), by omega, rfl, hlt, Γ2, e2, G2, q2⟩, fun x H2 y => ?_⟩
      obtain ⟨a, ea, nw, da, _⟩ := it.yld i H' x H2 e.keep (fun b m => W.live H' b e.ok m) hlt y
      have e3 := nw.ext e.ok
      obtain ⟨js, hj⟩ := hs i a Γ' ea q
      refine hj σ' H2 x _ (G'.ext e3) da fun σ3 Γ3 G3 _ q3 => ?_
      have e4 := (e1.trans e).trans e3
      exact q3 _ σ3 H2 G3 ⟨fun σ4 H4 Γ4 e5 G4 q4 => ⟨Γ4, (e.trans e3).trans e5, G4, q4⟩, fun v H4 t e5 d q4 => O.rt v H4 t (e4.trans e5) d q4, fun σ4 H4 Γ4 e5 G4 q4 => O.nx σ4 H4 Γ4 (e4.trans e5) G4 q4, fun σ4 H4 Γ4 e5 G4 q4 => ⟨Γ4, (e.trans e3).trans e5, G4, q4⟩⟩
    · have : i = as.length := by omega
      subst this
      exact .inl ⟨it.stop H' e.keep, O.nx σ' H' Γ' (e1.trans e) G' (hl Γ' q)⟩
/-! ### what rules answer -/
mutual
def namesF : Ru → List Str
  | .mk .leaf lb _ _ _ => [lb]
  | .mk .rank _ _ ps _ => namesL ps
  | .mk .trim _ _ ps _ => namesL ps
  | .mk .weigh _ _ ps _ => namesL ps
def namesL : List Ru → List Str
  | [] => []
  | p :: ps => namesF p ++ namesL ps
end
theorem namesL_flat : ∀ ps : List Ru, namesL ps = ps.flatMap namesF
  | [] => rfl
  | p :: ps => by rw [List.flatMap_cons, ← namesL_flat ps]; rfl
theorem namesF_node {r : Ru} (h : r.k ≠ .leaf) : namesF r = r.ps.flatMap namesF := by
  rw [← namesL_flat]
  obtain ⟨k, lb, ns, ps, rk⟩ := r
  cases k with
  | leaf => exact absurd rfl h
  | _ => rfl
theorem namesF_leaf {r : Ru} (h : r.k = .leaf) : namesF r = [r.lb] := by
  obtain ⟨k, lb, ns, ps, rk⟩ := r
  cases h
  rfl
mutual
def depR : Ru → Nat
  | .mk .leaf _ _ _ _ => 0
  | .mk .rank _ _ ps _ => depRL ps + 1
  | .mk .trim _ _ ps _ => depRL ps + 1
  | .mk .weigh _ _ ps _ => depRL ps + 1
def depRL : List Ru → Nat
  | [] => 0
  | p :: ps => max (depR p) (depRL ps)
end
theorem depR_mem {p : Ru} : ∀ {ps : List Ru}, p ∈ ps → depR p ≤ depRL ps
  | [], h => by cases h
  | q :: ps, h => by
    show depR p ≤ max (depR q) (depRL ps)
    rcases List.mem_cons.mp h with rfl | h
    · exact Nat.le_max_left _ _
    · exact Nat.le_trans (depR_mem h) (Nat.le_max_right _ _)
theorem depR_node {r : Ru} (h : r.k ≠ .leaf) : depR r = depRL r.ps + 1 := by
  obtain ⟨k, lb, ns, ps, rk⟩ := r
  cases k with
  | leaf => exact absurd rfl h
  | _ => rfl
def sortI (as : List Int) : List Int := as.mergeSort fun a b => decide (a ≤ b)
theorem sortI_perm (as : List Int) : (sortI as).Perm as := List.mergeSort_perm _ _
theorem sortI_sorted (as : List Int) : (sortI as).Pairwise (· ≤ ·) := by
  have := List.pairwise_mergeSort (le := fun a b : Int => decide (a ≤ b)) (by intro a b c; simp; omega) (by intro a b; simp; omega) as
  exact this.imp fun h => of_decide_eq_true h
theorem sortI_uniq {as bs : List Int} (hp : bs.Perm as) (hs : bs.Pairwise (· ≤ ·)) : bs = sortI as :=
  (hp.trans (sortI_perm as).symm).eq_of_pairwise (fun a b _ _ h1 h2 => by omega) hs (sortI_sorted as)
theorem sortI_len (as : List Int) : (sortI as).length = as.length := (sortI_perm as).length_eq
theorem sortI_congr {as bs : List Int} (h : as.Perm bs) : sortI as = sortI bs := sortI_uniq ((sortI_perm as).trans h) (sortI_sorted as)
/-- the least number of a list -/
def minL : List Int → Int
  | [] => 0
  | [a] => a
  | a :: b :: r => min a (minL (b :: r))
theorem minL_mem : ∀ {as : List Int}, as ≠ [] → minL as ∈ as
  | [], h => absurd rfl h
  | [a], _ => List.mem_cons_self
  | a :: b :: r, _ => by
    show min a (minL (b :: r)) ∈ _
    have ih := minL_mem (as := b :: r) (by simp)
    by_cases h : a ≤ minL (b :: r)
    · rw [Int.min_eq_left h]; exact List.mem_cons_self
    · rw [Int.min_eq_right (by omega)]; exact List.mem_cons_of_mem _ ih
theorem minL_le : ∀ {as : List Int} {y : Int}, y ∈ as → minL as ≤ y
  | [], _, h => by cases h
  | [a], y, h => by rw [List.mem_singleton.mp h]; exact Int.le_refl _
  | a :: b :: r, y, h => by
    show min a (minL (b :: r)) ≤ y
    rcases List.mem_cons.mp h with rfl | h
    · exact Int.min_le_left _ _
    · exact Int.le_trans (Int.min_le_right _ _) (minL_le h)
theorem minL_uniq {as : List Int} {m : Int} (h1 : m ∈ as) (h2 : ∀ y ∈ as, m ≤ y) : m = minL as := by
  have h3 := h2 _ (minL_mem (as := as) (by intro e; rw [e] at h1; cases h1))
  have h4 := minL_le h1
  omega
def wUp (ns as : List Int) (m : Int) : Int := (((as.zip ns).filter fun q => decide (q.1 ≤ m)).map fun q => q.2).sum
/-- the answers of which the mean is taken -/
def cntF (k : RK) (ns as : List Int) : List Int := match k with
  | .leaf => []
  | .rank => [(sortI as).getD (ns.headD 0).toNat 0]
  | .trim => ((sortI as).drop (ns.headD 0).toNat).take (as.length - (ns.headD 0).toNat - (ns.headD 0).toNat)
  | .weigh => [minL (as.filter fun a => decide (ns.sum ≤ 2 * wUp ns as a))]
def nodeF (k : RK) (ns as : List Int) : Int := (cntF k ns as).sum / (cntF k ns as).length
mutual
def ansF (rd : Str → Int) : Ru → Int
  | .mk .leaf lb _ _ _ => rd lb
  | .mk .rank _ ns ps _ => nodeF .rank ns (ansL rd ps)
  | .mk .trim _ ns ps _ => nodeF .trim ns (ansL rd ps)
  | .mk .weigh _ ns ps _ => nodeF .weigh ns (ansL rd ps)
def ansL (rd : Str → Int) : List Ru → List Int
  | [] => []
  | p :: ps => ansF rd p :: ansL rd ps
end
theorem ansL_map (rd : Str → Int) : ∀ ps : List Ru, ansL rd ps = ps.map (ansF rd)
  | [] => rfl
  | p :: ps => by rw [List.map_cons, ← ansL_map rd ps]; rfl
theorem ansF_node (rd : Str → Int) {r : Ru} (h : r.k ≠ .leaf) : ansF rd r = nodeF r.k r.ns (r.ps.map (ansF rd)) := by
  rw [← ansL_map]
  obtain ⟨k, lb, ns, ps, rk⟩ := r
  cases k with
  | leaf => exact absurd rfl h
  | _ => rfl
theorem ansF_leaf (rd : Str → Int) {r : Ru} (h : r.k = .leaf) : ansF rd r = rd r.lb := by
  obtain ⟨k, lb, ns, ps, rk⟩ := r
  cases h
  rfl
/-- the numbers of a rule of this kind with n parts are right -/
def numOk (k : RK) (ns : List Int) (n : Nat) : Prop := match k with
  | .leaf => True
  | .rank => ∃ p, ns = [p] ∧ 0 ≤ p ∧ p < n
  | .trim => ∃ c, ns = [c] ∧ 0 ≤ c ∧ 2 * c < n
  | .weigh => ns.length = n ∧ (∀ w ∈ ns, 0 ≤ w) ∧ 0 < ns.sum
mutual
def okR : Ru → Prop
  | .mk k _ ns ps _ => numOk k ns ps.length ∧ ps.length ≤ 100 ∧ okRL ps
def okRL : List Ru → Prop
  | [] => True
  | p :: ps => okR p ∧ okRL ps
end
theorem okRL_mem {p : Ru} : ∀ {ps : List Ru}, okRL ps → p ∈ ps → okR p
  | [], _, h => by cases h
  | q :: ps, ho, h => by
    have ho : okR q ∧ okRL ps := ho
    rcases List.mem_cons.mp h with rfl | h
    · exact ho.1
    · exact okRL_mem ho.2 h
theorem okR_node {r : Ru} : okR r ↔ numOk r.k r.ns r.ps.length ∧ r.ps.length ≤ 100 ∧ okRL r.ps := by
  obtain ⟨k, lb, ns, ps, rk⟩ := r
  show okR (.mk k lb ns ps rk) ↔ _
  unfold okR
  exact Iff.rfl
mutual
def kdsR (ks : List RK) : Ru → Prop
  | .mk k _ _ ps _ => k ∈ ks ∧ kdsRL ks ps
def kdsRL (ks : List RK) : List Ru → Prop
  | [] => True
  | p :: ps => kdsR ks p ∧ kdsRL ks ps
end
theorem kdsRL_mem {ks : List RK} {p : Ru} : ∀ {ps : List Ru}, kdsRL ks ps → p ∈ ps → kdsR ks p
  | [], _, h => by cases h
  | q :: ps, ho, h => by
    have ho : kdsR ks q ∧ kdsRL ks ps := ho
    rcases List.mem_cons.mp h with rfl | h
    · exact ho.1
    · exact kdsRL_mem ho.2 h
theorem kdsRL_of {ks : List RK} : ∀ {ps : List Ru}, (∀ p ∈ ps, kdsR ks p) → kdsRL ks ps
  | [], _ => trivial
  | q :: ps, h => ⟨h q List.mem_cons_self, kdsRL_of fun p hp => h p (List.mem_cons_of_mem _ hp)⟩
theorem okRL_of : ∀ {ps : List Ru}, (∀ p ∈ ps, okR p) → okRL ps
  | [], _ => trivial
  | q :: ps, h => ⟨h q List.mem_cons_self, okRL_of fun p hp => h p (List.mem_cons_of_mem _ hp)⟩
theorem kdsR_node {ks : List RK} {r : Ru} : kdsR ks r ↔ r.k ∈ ks ∧ kdsRL ks r.ps := by
  obtain ⟨k, lb, ns, ps, rk⟩ := r
  show kdsR ks (.mk k lb ns ps rk) ↔ _
  unfold kdsR
  exact Iff.rfl
/-- the first name that stood before -/
def dupG (seen : List Str) : List Str → Option Str
  | [] => none
  | a :: r => if a ∈ seen then some a else dupG (seen ++ [a]) r
def dupF (l : List Str) : Option Str := dupG [] l
theorem dupG_none {seen l : List Str} : dupG seen l = none ↔ (∀ a ∈ l, a ∉ seen) ∧ l.Nodup := by
  induction l generalizing seen with
  | nil => simp [dupG]
  | cons a r ih =>
    unfold dupG
    by_cases h : a ∈ seen
    · rw [if_pos h]
      exact ⟨fun z => (nomatch z), fun z => absurd h (z.1 a List.mem_cons_self)⟩
    · rw [if_neg h, ih, List.nodup_cons]
      constructor
      · rintro ⟨h1, h2⟩
        refine ⟨fun b hb => ?_, fun hm => h1 a hm (List.mem_append_right _ (List.mem_singleton.mpr rfl)), h2⟩
        rcases List.mem_cons.mp hb with rfl | hb
        · exact h
        · exact fun z => h1 b hb (List.mem_append_left _ z)
      · rintro ⟨h1, h2, h3⟩
        refine ⟨fun b hb z => ?_, h3⟩
        rcases List.mem_append.mp z with z | z
        · exact h1 b (List.mem_cons_of_mem _ hb) z
        · exact h2 (List.mem_singleton.mp z ▸ hb)
theorem dupF_none {l : List Str} : dupF l = none ↔ l.Nodup := by
  unfold dupF
  rw [dupG_none]
  exact ⟨fun h => h.2, fun h => ⟨fun _ _ z => (nomatch z), h⟩⟩
theorem dupG_step {seen l : List Str} {i : Nat} {a : Str} (h : l[i]? = some a) (hs : seen = l.take i) : dupG seen (l.drop i) = if a ∈ seen then some a else dupG (l.take (i + 1)) (l.drop (i + 1)) := by
  have hi := (List.getElem?_eq_some_iff.mp h).1
  have he := (List.getElem?_eq_some_iff.mp h).2
  rw [List.drop_eq_getElem_cons hi, he]
  show (if a ∈ seen then some a else dupG (seen ++ [a]) (l.drop (i + 1))) = _
  rw [hs, List.take_succ, h]
  rfl
end G
namespace G
open PySem PySem.Spec PyProof.Rows L2 StX
/-- isinstance(o, C), o of one of several classes -/
theorem ev_isiW {β : Type} {rβ : Rep β} {fl : List Str} [vβ : VIns β fl] {W : Wd} {Γ : Gam} {te : TE} {K : PySem.W.Frag} {C2 : Addr} {k : Bool → Prop} (hK : W.B.K = K)
    (h : EvK W te Γ fun g : β => ∃ b, IsT K (W.B.cl (VIns.kn g)) ∧ PySem.W.kitOne K (.ref (W.B.cl (VIns.kn g))) (.ref C2) = some b ∧ k b) : EvK W (tCB (rIsi K) (tCons te (tCons (tC (.ref C2)) tNil))) Γ k := by
  subst hK
  refine fun σ H Q E q => h σ H _ E fun v H1 g e1 d ⟨b, hT, hk, z⟩ => ?_
  obtain ⟨p, dp, fs, hv, _, hH, _⟩ := VIns.at_ d
  exact ⟨v, .ref C2, _, _, b, rfl, .own C2, by rw [hv]; exact .base (.ins hH hT.c hT.f hT.s hT.t hT.m), hk, q _ H1 _ e1 rfl z⟩
end G
namespace G
open PySem PySem.Spec PyProof.Rows L2 StX
theorem RcT.use {W : Wd} {B : Bs} {K : PySem.W.Frag} {k : RK} (h : RcT B k) (hB : W.B = B) (hK : W.B.K = K) : L2.Cls K (W.B.cl k.cn) ∧ NoAttr K (W.B.cl k.cn) "label" ∧ NoAttr K (W.B.cl k.cn) "numbers" ∧ NoAttr K (W.B.cl k.cn) "parts" ∧ NoAttr K (W.B.cl k.cn) "ranked" := by
  subst hB
  subst hK
  exact ⟨h.cl, h.nlabel, h.nnumbers, h.nparts, h.nranked⟩
/-- what making a rule of this kind gives -/
def MkR (lbl : Str) (kd : RK) (good : Prop) (ns : List Int) (ps : List Ru) (rk : Bool) (ok : Ru → Prop) (xx : Xn → Prop) : Prop :=
  (¬ good → xx ⟨.BadRule, [("kind", .s lbl)]⟩) ∧ (good → match dupF (namesL ps) with | none => ok (.mk kd lbl ns ps rk) | some n => (reprText n).length ≤ 3000 ∧ n.length ≤ 3000 ∧ xx ⟨.DuplicateGauge, [("name", .s n)]⟩)
/-- parts that may be combined -/
structure PsOk (ks : List RK) (ps : List Ru) : Prop where
  kds : kdsRL ks ps
  dep : depRL ps ≤ 7
  len : ps.length ≤ 1000
  nms : (namesL ps).length ≤ 1000
def shStr (f : Str) (vs : List V) (fs : List (Str × V)) : Prop := ∃ x : Str, vs = [.str x] ∧ (reprText x).length ≤ 3000 ∧ x.length ≤ 3000 ∧ fs = ([(f, .str x)] : List (Str × V))
theorem shStr_ok {f a : Str} (s : (reprText a).length ≤ 3000) (s2 : a.length ≤ 3000) : ShT (shStr f) [T a] [(f, .s a)] := ⟨by show 1 ≤ 1000; decide, fun W H vs h => by
  cases h with
  | cons h1 h =>
  cases h
  exact ⟨_, ⟨_, by rw [show _ = V.str a from h1], s, s2, rfl⟩, .cons (t := .s a) rfl .nil⟩⟩
theorem fmt_rep {σ : L2.St} {H : Hp} {te : TE} {x : Str} (h : ∀ Q : VK, Q (.str x) H → te σ H Q) (s : (reprText x).length ≤ 3000) : ∀ Q : VK, Q (.str (reprText x)) H → tFmtR te σ H Q := fun Q q => h _ (.inl ⟨x, rfl, Nat.le_trans s (by decide), q⟩)
theorem fmt_str {σ : L2.St} {H : Hp} {te : TE} {x : Str} (h : ∀ Q : VK, Q (.str x) H → te σ H Q) (s : x.length ≤ 3000) : ∀ Q : VK, Q (.str x) H → tFmt te σ H Q := fun Q q => h _ (.inl ⟨x, rfl, Nat.le_trans s (by decide), q⟩)
end G
namespace G
theorem mem_sum_le {a : Nat} : ∀ {l : List Nat}, a ∈ l → a ≤ l.sum
  | [], h => by cases h
  | b :: r, h => by
    rw [List.sum_cons]
    rcases List.mem_cons.mp h with rfl | h
    · omega
    · have := mem_sum_le h; omega
theorem names_mem_le {p : Ru} {ps : List Ru} (h : p ∈ ps) : (namesF p).length ≤ (ps.flatMap namesF).length := by
  rw [List.length_flatMap]
  exact mem_sum_le (List.mem_map.mpr ⟨p, h, rfl⟩)
end G
namespace G
theorem kn_ru {B : Bs} {p : Ru} {k : RK} (h : p.k = k) : B.cl (VIns.kn p) = B.cl k.cn := by rw [← h]; rfl
end G
namespace G
open PySem PySem.Spec PyProof.Rows L2 StX
theorem EvF.imp {β : Type} {rβ : Rep β} {W : Wd} {te : TE} {Γ : Gam} {k k' : List β → Prop} (h : EvF W te Γ k) (i : ∀ bs, k bs → k' bs) : EvF W te Γ k' := fun σ H Q G c =>
  h σ H Q G fun p H' vs bs n e hp hd q => c p H' vs bs n e hp hd (i bs q)
theorem enumF_get {α : Type} {as : List α} {i : Nat} {a : Int × α} (h : (enumF as)[i]? = some a) : ∃ b, as[i]? = some b ∧ ((i : Int), b) = a := by
  have hi := (List.getElem?_eq_some_iff.mp h).1
  rw [enumF_length] at hi
  have h2 := enumF_at (List.getElem?_eq_getElem hi)
  rw [h] at h2
  exact ⟨as[i], List.getElem?_eq_getElem hi, (Option.some.inj h2).symm⟩
end G
namespace G
open PySem PySem.Spec PyProof.Rows L2 StX
theorem namesF_any {kd : RK} {lb : Str} {ns : List Int} {ps : List Ru} {rk : Bool} (h : kd ≠ .leaf) : namesF (.mk kd lb ns ps rk) = namesL ps := by
  rw [namesL_flat]
  exact namesF_node h
theorem anyE_sxh {W : Wd} {F : Hp} {L : OwnH} {x : Xn → Prop} {E : XK} (h : ∀ H', W.ok H' → W.wish H' → XOk W H' E x) : ∀ H', W.ok H' → W.wish H' → ∀ σ : L2.St, XOk W H' ((fun _ => E) σ) x := fun H' o w _ => h H' o w
/-- numbers that the readings of a dict are -/
def rdF (ds : List (Str × Int)) (n : Str) : Int := (getDc ds n).getD 0
theorem getD_of {as : List Int} {i : Int} (h0 : 0 ≤ i) (h1 : i < as.length) : atI as i = some (as.getD i.toNat 0) := by
  obtain ⟨j, rfl⟩ : ∃ j : Nat, i = j := ⟨i.toNat, by omega⟩
  have hj : j < as.length := by omega
  rw [Int.toNat_natCast, List.getD_eq_getElem?_getD, List.getElem?_eq_getElem hj]
  exact atI_nat (List.getElem?_eq_getElem hj)
end G
namespace G
theorem cnt_len {k : RK} {ns as : List Int} {n : Nat} (h : numOk k ns n) (hk : k ≠ .leaf) (hl : as.length = n) (hn : n ≤ 100) : 0 < (cntF k ns as).length ∧ (cntF k ns as).length ≤ 1000 := by
  cases k with
  | leaf => exact absurd rfl hk
  | rank => exact ⟨Nat.one_pos, by show 1 ≤ 1000; omega⟩
  | weigh => exact ⟨Nat.one_pos, by show 1 ≤ 1000; omega⟩
  | trim =>
    obtain ⟨c, rfl, h0, h1⟩ := h
    show 0 < (((sortI as).drop c.toNat).take (as.length - c.toNat - c.toNat)).length ∧ (((sortI as).drop c.toNat).take (as.length - c.toNat - c.toNat)).length ≤ 1000
    rw [List.length_take, List.length_drop, sortI_len]
    omega
end G
set_option Elab.async false
set_option linter.all false
set_option maxRecDepth 100000
set_option maxHeartbeats 2000000
namespace G
open PySem PySem.Spec PyProof.Rows L2 StX
/-! ### displays and copies of dicts -/
def mergeD {β : Type} (l more : List (Str × β)) : List (Str × β) := more.foldl (fun acc e => putDc acc e.1 e.2) l
theorem Dk.merge {β : Type} {f : V → β → Prop} : ∀ {more : List (Key × V)} {m : List (Str × β)} {kvs : List (Key × V)} {l : List (Str × β)}, Dk f more m → Dk f kvs l → Dk f (mergeK kvs more) (mergeD l m)
  | _, _, _, _, .nil, h => h
  | _, _, _, _, .cons (k := k) h r, t => r.merge (t.put (k := k) h)
def EvP {β : Type} [Rep β] (W : Wd) (trs : List (TE × TE)) (Γ : Gam) (k : List (Str × β) → Prop) : Prop :=
  ∀ σ H (Q : List (V × V) → Hp → Prop), GOk W H σ Γ → (∀ (kvs : List (Key × V)) H' (l : List (Str × β)), Ext W H H' → Dk (den W H') kvs l → k l → Q (kvs.map fun kv => (kV kv.1, kv.2)) H') → tPairs trs σ H Q
section
variable {W : Wd} {Γ : Gam} {te tk tv : TE} {trs : List (TE × TE)} {K : PySem.W.Frag}
theorem ep_nil {β : Type} {rβ : Rep β} {k : List (Str × β) → Prop} (q : k []) : EvP W [] Γ k := fun σ H Q G c => c [] H [] (Ext.refl G.ok) .nil q
theorem ep_cons {β : Type} {rβ : Rep β} {k : List (Str × β) → Prop} (h : EvK W tk Γ fun s : Str => EvK W tv Γ fun b : β => EvP W trs Γ fun l => k ((s, b) :: l)) : EvP W ((tk, tv) :: trs) Γ k := fun σ H Q G c =>
  h σ H _ G fun x H1 s e1 dx h2 => h2 σ H1 _ (G.ext e1) fun y H2 b e2 dy h3 => h3 σ H2 _ ((G.ext e1).ext e2) fun kvs H3 l e3 d q => by
    have dx : x = .str s := dx
    subst dx
    exact c ((.inr s, y) :: kvs) H3 ((s, b) :: l) ((e1.trans e2).trans e3) (.cons (Rep.mono e3.keep dy) d) q
theorem Dk.flat {β : Type} [Rep β] [Flat β] {W W' : Wc} {H H' : Hp} {kvs : List (Key × V)} {l : List (Str × β)} (h : Dk (den W H) kvs l) : Dk (den W' H') kvs l := h.imp fun _ _ d => Flat.at_ d
theorem ev_disp {β : Type} {rβ : Rep β} [Flat β] {k : Dc β → Prop} (h : EvP W trs Γ fun l : List (Str × β) => l.length ≤ 15 ∧ k ⟨mergeD [] l⟩) : EvK W (tDisp trs) Γ k := fun σ H Q G c p hp => by
  have e1 := Ext.new (o := .dK []) G.ok hp
  refine h σ _ _ (G.ext e1) fun kvs H2 l e2 d ⟨hl, q⟩ => ?_
  have m := fresh_mu G.ok hp
  refine ⟨e2.keep p _ m upd_same, kvs, rfl, by rw [d.length]; exact hl, ?_⟩
  have e3 : Ext W H (upd H2 p (.dK (mergeK [] kvs))) := ⟨fun a u mm z => by
    rw [upd_ne (ne_of_none z hp)]
    exact (e1.trans e2).keep a u mm z, W.st _ _ _ e2.ok m⟩
  exact c (.ref p) _ _ e3 ⟨p, _, rfl, ⟨m, upd_same⟩, (d.flat).merge .nil⟩ q
/-- dict(d) -/
theorem ev_dictOf {β : Type} {rβ : Rep β} {k : Dc β → Prop} (h : EvK W te Γ fun d : Dc β => k d) : EvK W (tCB (fun xs H Q => ∃ (a : Addr) (kvs : List (Key × V)), xs = [.ref a] ∧ Rd H a (.dK kvs) ∧ ∀ p, H p = none → Q (.ref p) (upd H p (.dK kvs))) (tCons te tNil)) Γ k := fun σ H Q G c =>
  h σ H _ G fun v H1 d e1 ⟨p, kvs, hv, hp, hd⟩ z => ⟨p, kvs, congrArg (fun x => [x]) hv, .inl hp.2, fun q hq => by
    have e2 := Ext.new (o := .dK kvs) e1.ok hq
    exact c (.ref q) _ d (e1.trans e2) ⟨q, kvs, rfl, ⟨fresh_mu e1.ok hq, upd_same⟩, hd.imp fun _ _ d => Rep.mono e2.keep d⟩ z⟩
end
/-! ### rules lean on no list -/
mutual
theorem ruD_nolst {W : Wc} {H : Hp} {D : Addr} {xs : List V} (h : H D = some (.lst xs)) : ∀ (v : V) (r : Ru), ruD W H v r → ruD (W.plus D) H v r
  | v, .mk k lb ns ps rk, hr => by
    unfold ruD at hr ⊢
    obtain ⟨a, dx, tn, tp, vs, hv, m, hH, h1, h2, hc, h3⟩ := hr
    exact ⟨a, dx, tn, tp, vs, hv, fun z => z.elim m fun z => (by rw [z, h] at hH; cases hH), hH, tq_nl h h1, tq_nl h h2, hc, ruL_nolst h _ _ h3⟩
theorem ruL_nolst {W : Wc} {H : Hp} {D : Addr} {xs : List V} (h : H D = some (.lst xs)) : ∀ (vs : List V) (r : List Ru), ruL W H vs r → ruL (W.plus D) H vs r
  | vs, [], hr => by unfold ruL at hr ⊢; exact hr
  | vs, p :: ps, hr => by
    unfold ruL at hr ⊢
    obtain ⟨v, r, hv, h1, h2⟩ := hr
    exact ⟨v, r, hv, ruD_nolst h _ _ h1, ruL_nolst h _ _ h2⟩
end
instance : NoLst Ru := ⟨fun h d => ruD_nolst h _ _ d⟩
/-! ### leaves, and ranks of them -/
def lfU (w : Str) : Ru := .mk .leaf w [] [] true
def rkU (pl : Int) (ps : List Ru) : Ru := .mk .rank "rank" [pl] ps (ps.all Ru.rk)
theorem lf_names (ws : List Str) : namesL (ws.map lfU) = ws := by
  rw [namesL_flat]
  induction ws with
  | nil => rfl
  | cons w r ih => rw [List.map_cons, List.flatMap_cons, ih]; rfl
theorem lf_dep : ∀ ws : List Str, depRL (ws.map lfU) = 0
  | [] => rfl
  | w :: r => by
    rw [List.map_cons]
    show max 0 (depRL (r.map lfU)) = 0
    rw [lf_dep r]
    rfl
theorem lf_kds {ks : List RK} (h : RK.leaf ∈ ks) (ws : List Str) : kdsRL ks (ws.map lfU) := kdsRL_of fun p hp => by
  obtain ⟨w, _, rfl⟩ := List.mem_map.mp hp
  exact kdsR_node.mpr ⟨h, trivial⟩
theorem lf_ok (ws : List Str) : okRL (ws.map lfU) := okRL_of fun p hp => by
  obtain ⟨w, _, rfl⟩ := List.mem_map.mp hp
  exact okR_node.mpr ⟨trivial, by show 0 ≤ 100; decide, trivial⟩
theorem lf_ps {ks : List RK} (h : RK.leaf ∈ ks) {ws : List Str} (hl : ws.length ≤ 100) : PsOk ks (ws.map lfU) := ⟨lf_kds h ws, by rw [lf_dep]; decide, by rw [List.length_map]; omega, by rw [lf_names]; omega⟩
theorem lf_dup {ws : List Str} (h : ws.Nodup) : dupF (namesL (ws.map lfU)) = none := by
  rw [lf_names]
  exact dupF_none.mpr h
theorem lf_ans (rd : Str → Int) (ws : List Str) : (ws.map lfU).map (ansF rd) = ws.map rd := by
  rw [List.map_map]
  rfl
/-- a rank of leaves, all well -/
structure FlatOk (ks : List RK) (k : RK) (r : Ru) : Prop where
  kk : r.k = k
  dep : depR r ≤ 8
  kds : kdsR ks r
  ok : okR r
theorem rk_flat {ks : List RK} (h : RK.leaf ∈ ks) (h2 : RK.rank ∈ ks) {ws : List Str} {pl : Int} (h0 : 0 ≤ pl) (h1 : pl < ws.length) (hl : ws.length ≤ 100) : FlatOk ks .rank (rkU pl (ws.map lfU)) :=
  ⟨rfl, by show depRL (ws.map lfU) + 1 ≤ 8; rw [lf_dep]; decide, kdsR_node.mpr ⟨h2, lf_kds h ws⟩, okR_node.mpr ⟨⟨pl, rfl, h0, by show pl < ((ws.map lfU).length : Int); rw [List.length_map]; exact h1⟩, by show (ws.map lfU).length ≤ 100; rw [List.length_map]; exact hl, lf_ok ws⟩⟩
theorem rk_names (pl : Int) (ws : List Str) : namesF (rkU pl (ws.map lfU)) = ws := lf_names ws
theorem rk_ans (rd : Str → Int) (pl : Int) (ws : List Str) : ansF rd (rkU pl (ws.map lfU)) = (sortI (ws.map rd)).getD pl.toNat 0 := by
  show nodeF .rank [pl] (ansL rd (ws.map lfU)) = _
  rw [ansL_map, lf_ans]
  show (([(sortI (ws.map rd)).getD pl.toNat 0] : List Int).sum) / ((1 : Nat) : Int) = _
  simp
end G
namespace G
open PySem PySem.Spec PyProof.Rows L2 StX
theorem EvL.imp {α : Type} {rα : Rep α} {W : Wd} {ta : TA} {Γ : Gam} {k k' : List α → Prop} (h : EvL W ta Γ k) (i : ∀ as, k as → k' as) : EvL W ta Γ k' := fun σ H Q G c => h σ H Q G fun vs H' as e d q => c vs H' as e d (i as q)
theorem EvL.of {α : Type} {rα : Rep α} {W : Wd} {ta : TA} {Γ : Gam} {k : List α → Prop} (as : List α) (h : EvL W ta Γ fun bs => bs = as) (q : k as) : EvL W ta Γ k := h.imp fun bs e => e ▸ q
theorem len1 {α : Type} : ∀ {l : List α}, l.length = 1 → ∃ a, l = [a]
  | [a], _ => ⟨a, rfl⟩
theorem len2 {α : Type} : ∀ {l : List α}, l.length = 2 → ∃ a b, l = [a, b]
  | [a, b], _ => ⟨a, b, rfl⟩
theorem len3 {α : Type} : ∀ {l : List α}, l.length = 3 → ∃ a b c, l = [a, b, c]
  | [a, b, c], _ => ⟨a, b, c, rfl⟩
theorem mkr_of {lbl : Str} {kd : RK} {good : Prop} {ns : List Int} {ws : List Str} {rk : Bool} {ok : Ru → Prop} {xx : Xn → Prop} (hg : good) (hnd : ws.Nodup) (q : ok (.mk kd lbl ns (ws.map lfU) rk)) : MkR lbl kd good ns (ws.map lfU) rk ok xx :=
  ⟨fun h => absurd hg h, fun _ => by rw [lf_dup hnd]; exact q⟩
end G
namespace G
open PySem PySem.Spec PyProof.Rows L2 StX
theorem putDc_new {β : Type} {l : List (Str × β)} {k : Str} {b : β} (h : k ∉ l.map (·.1)) : putDc l k b = l ++ [(k, b)] := by
  unfold putDc
  rw [if_neg]
  intro z
  obtain ⟨e, he, hd⟩ := List.any_eq_true.mp z
  exact h (List.mem_map.mpr ⟨e, he, of_decide_eq_true hd⟩)
theorem mergeD_nodup {β : Type} : ∀ (more l : List (Str × β)), ((l ++ more).map (·.1)).Nodup → mergeD l more = l ++ more
  | [], l, _ => (List.append_nil l).symm
  | (k, b) :: r, l, h => by
    show mergeD (putDc l k b) r = _
    have h1 : k ∉ l.map (·.1) := fun z => by
      rw [List.map_append, List.map_cons] at h
      exact (List.nodup_append.mp h).2.2 k z k List.mem_cons_self rfl
    rw [putDc_new h1, mergeD_nodup r _ (by rw [List.append_assoc]; exact h), List.append_assoc]
    rfl
theorem getDc_c {β : Type} (a : Str) (b : β) (r : List (Str × β)) (j : Str) : getDc ((a, b) :: r) j = if a = j then some b else getDc r j := by
  unfold getDc
  by_cases e : a = j
  · rw [if_pos e, List.find?_cons_of_pos (by exact decide_eq_true e)]
    rfl
  · rw [if_neg e, List.find?_cons_of_neg (by rw [decide_eq_true_iff]; exact e)]
theorem rdF_c (a : Str) (b : Int) (r : List (Str × Int)) (j : Str) : rdF ((a, b) :: r) j = if a = j then b else rdF r j := by
  unfold rdF
  rw [getDc_c]
  split <;> rfl
theorem sortI_is {as bs : List Int} (hp : ∀ a, bs.count a = as.count a) (hs : bs.Pairwise (· ≤ ·)) : sortI as = bs := (sortI_uniq (List.perm_iff_count.mpr hp) hs).symm
end G
namespace G
open PySem PySem.Spec PyProof.Rows L2 StX
theorem filtT {α : Type} (as : List α) : as.filter (fun _ => true) = as := List.filter_eq_self.mpr fun _ _ => rfl
/-- the first and the last of a sorted list -/
theorem sorted_ends {bs : List Int} (h : bs.Pairwise (· ≤ ·)) (h0 : 0 < bs.length) : ∃ a b, atI bs 0 = some a ∧ atI bs (-1) = some b ∧ a ≤ b := by
  cases bs with
  | nil => exact absurd h0 (by decide)
  | cons a r =>
    refine ⟨a, (a :: r).getLast (by simp), atI_nat (j := 0) rfl, atI_last1 (List.getLast?_eq_some_getLast _), ?_⟩
    cases r with
    | nil => exact Int.le_refl _
    | cons b r =>
      rw [List.getLast_cons (by simp)]
      exact (List.pairwise_cons.mp h).1 _ (List.getLast_mem _)
end G
set_option Elab.async false
set_option linter.all false
set_option maxRecDepth 100000
set_option maxHeartbeats 2000000
namespace G
open PySem PySem.Spec PyProof.Rows L2 StX
/-! ### pop and insert of own lists; ranks cut -/
def rIns : V → List V → Hp → VK → Prop := fun x vs H Q => ∃ (l : Addr) (xs : List V) (i : Int) (y : V), x = .ref l ∧ vs = [.int i, y] ∧ H l = some (.lst xs) ∧ xs.length < sizeLine ∧ 0 ≤ i ∧ i < 2 ^ 63 ∧
    Q .non (upd H l (.lst (xs.take i.toNat ++ [y] ++ xs.drop i.toNat)))
section
variable {X : Cx} {o e : Expr} {es : List Expr} {to : TE} {t : TA} {apos pos : Pos}
theorem pe_popK (K : PySem.W.Frag) (ho : PE X o to) (hK : X.K = K := by rfl)
    (hbase : attributeBase o "pop" X.env (eval o X.env) = eval o X.env := by rfl) (hline : (apos.endLine == pos.line) = true := by rfl) : PE X (.Call (.Attribute o "pop" apos) [] [] pos) (tBM0 K "list" rPop to) := by
  subst hK
  exact pe_bm0 PySem.F.plainAttrs_list PySem.F.slot_list_pop PySem.F.type_list_pop mt_pop ho hbase hline
theorem pe_insertK (K : PySem.W.Frag) (ho : PE X o to) (ha : PA X (e :: es) t) (hK : X.K = K := by rfl)
    (hbase : attributeBase o "insert" X.env (eval o X.env) = eval o X.env := by rfl)
    (hfew : ((backTo pos (starEach (e :: es) X.env)).all (fun x => !x.1) && (backToKw pos (keywordEach [] X.env)).all (fun x => x.1.isSome)
      && decide ((e :: es).length + ([] : List Keyword).length + (if ([] : List Keyword).isEmpty then 0 else 1) < 30)) = true := by rfl)
    (hline : (apos.endLine == pos.line) = true := by rfl) (hs : starEach (e :: es) X.env = (false, eval e X.env) :: starEach es X.env := by rfl) (hplain : (backTo pos (starEach es X.env)).any (·.1) = false := by rfl) :
    PE X (.Call (.Attribute o "insert" apos) (e :: es) [] pos) (tBM K "list" rIns to t) := by
  subst hK
  exact pe_bm PySem.F.plainAttrs_list PySem.F.slot_list_insert PySem.F.type_list_insert mt_insert ho ha hbase hfew hline hs hplain
end
theorem Dl.dropLast {α : Type} {f : V → α → Prop} : ∀ {vs : List V} {as : List α}, Dl f vs as → Dl f vs.dropLast as.dropLast
  | _, _, .nil => .nil
  | _, _, .cons _ .nil => .nil
  | _, _, .cons x (.cons y z) => .cons x (Dl.dropLast (.cons y z))
section
variable {W : Wd} {F : Hp} {L : Own} {Γ : Gam} {te : TE} {R : PoM} {K : PySem.W.Frag}
theorem sxm_pop {α : Type} {rα : Rep α} {i : Nat} (k : Nat) {p : Addr} {vs : List V} {as : List α} (hk : L[k]? = some (p, vs)) (hi : Γ[i]? = some (some (T (Ol.mk p vs as)))) (hne : 0 < as.length)
    (q : R.nx (L.set k (p, vs.dropLast)) (Γ.set i (some (T (Ol.mk p vs.dropLast as.dropLast))))) : SxM W F (tDrop (tBM0 K "list" rPop (tVar i))) L Γ R := fun D σ H oF nF wF nd G O => by
  obtain ⟨h1, h2⟩ := ol_at G hi
  have hp := G.ok.2 _ (List.mem_of_getElem? hk)
  have hl : vs.length - 1 < vs.length := by rw [h2.length]; omega
  refine ⟨_, h1, .inl ⟨rfl, _, .inl (.inl hp)⟩, ?_⟩
  refine ⟨p, vs, vs[vs.length - 1], rfl, rfl, hp, List.getElem?_eq_getElem hl, ?_⟩
  exact own_put nd G O hk h1 h2.dropLast q
theorem sxm_ins0 {α : Type} {rα : Rep α} {i : Nat} (k : Nat) {p : Addr} {vs : List V} {as : List α} (hk : L[k]? = some (p, vs)) (hi : Γ[i]? = some (some (T (Ol.mk p vs as))))
    (h : ∀ Wo, OwnW W L Wo → EvK Wo te Γ fun a : α => as.length < 100000 ∧ ∀ v, R.nx (L.set k (p, v :: vs)) (Γ.set i (some (T (Ol.mk p (v :: vs) (a :: as)))))) : SxM W F (tDrop (tBM K "list" rIns (tVar i) (tCons (tC (.int 0)) (tCons te tNil)))) L Γ R := fun D σ H oF nF wF nd G O => by
  obtain ⟨h1, h2⟩ := ol_at G hi
  refine ⟨_, h1, .inl ⟨rfl, _, .inl (.inl (G.ok.2 _ (List.mem_of_getElem? hk)))⟩, ?_⟩
  refine h _ (own_w wF) σ H _ G fun v H1 a e1 d ⟨hl, q⟩ => ?_
  have G1 := G.ext e1
  refine ⟨p, vs, 0, v, rfl, rfl, G1.ok.2 _ (List.mem_of_getElem? hk), Nat.lt_of_lt_of_le (by rw [h2.length]; exact hl) (by decide : 100000 ≤ sizeLine), by decide, by decide, ?_⟩
  exact own_put nd G1 (O.step G1.ok.1 (own_stp e1)) hk h1 (.cons d (h2.imp fun _ _ d => Rep.mono e1.keep d)) (q v)
end
end G
namespace G
open PySem PySem.Spec PyProof.Rows L2 StX
def tmU (c : Int) (ps : List Ru) : Ru := .mk .trim "trim" [c] ps false
theorem tm_flat {ks : List RK} (h : RK.leaf ∈ ks) (h2 : RK.trim ∈ ks) {ws : List Str} {c : Int} (h0 : 0 ≤ c) (h1 : 2 * c < ws.length) (hl : ws.length ≤ 100) : FlatOk ks .trim (tmU c (ws.map lfU)) :=
  ⟨rfl, by show depRL (ws.map lfU) + 1 ≤ 8; rw [lf_dep]; decide, kdsR_node.mpr ⟨h2, lf_kds h ws⟩, okR_node.mpr ⟨⟨c, rfl, h0, by show 2 * c < ((ws.map lfU).length : Int); rw [List.length_map]; exact h1⟩, by show (ws.map lfU).length ≤ 100; rw [List.length_map]; exact hl, lf_ok ws⟩⟩
theorem tm_names (c : Int) (ws : List Str) : namesF (tmU c (ws.map lfU)) = ws := lf_names ws
/-- what is left of sorted numbers -/
def keptF (c : Int) (ord : List Int) : List Int := (ord.drop c.toNat).take (ord.length - c.toNat - c.toNat)
theorem tm_ans (rd : Str → Int) (c : Int) (ws : List Str) : ansF rd (tmU c (ws.map lfU)) = (keptF c (sortI (ws.map rd))).sum / ((keptF c (sortI (ws.map rd))).length : Int) := by
  show nodeF .trim [c] (ansL rd (ws.map lfU)) = _
  rw [ansL_map, lf_ans]
  unfold keptF
  rw [sortI_len]
  rfl
theorem kept_len {c : Int} {ord : List Int} (h0 : 0 ≤ c) (h1 : 2 * c < ord.length) : ((keptF c ord).length : Int) = ord.length - 2 * c := by
  unfold keptF
  rw [List.length_take, List.length_drop]
  omega
end G
namespace G
open PySem PySem.Spec PyProof.Rows L2 StX
def smp (lo hi : Int) : List (Str × Int) := [("a", -3), ("b", lo), ("c", hi)]
def abc : List Str := ["a", "b", "c"]
def ba : List Str := ["b", "a"]
theorem smp_rd (lo hi : Int) : rdF (smp lo hi) "a" = -3 ∧ rdF (smp lo hi) "b" = lo ∧ rdF (smp lo hi) "c" = hi := by
  unfold smp
  refine ⟨?_, ?_, ?_⟩ <;> simp only [rdF_c] <;> repeat (first | rw [if_pos trivial] | rw [if_pos rfl] | rw [if_neg (by decide +kernel)])
theorem smp_has (lo hi : Int) : ∀ n ∈ abc, (getDc (smp lo hi) n).isSome = true := by
  intro n hn
  unfold abc at hn
  unfold smp
  simp only [List.mem_cons, List.not_mem_nil, or_false] at hn
  rcases hn with rfl | rfl | rfl <;> simp only [getDc_c] <;> repeat (first | rw [if_pos trivial] | rw [if_pos rfl] | rw [if_neg (by decide +kernel)])
  all_goals rfl
theorem ba_abc : ∀ n ∈ ba, n ∈ abc := by decide +kernel
end G
namespace G
open PySem PySem.Spec PyProof.Rows L2 StX
theorem tm_one (rd : Str → Int) (w : Str) : ansF rd (tmU 0 ([w].map lfU)) = rd w := by
  rw [tm_ans]
  have h : sortI ([w].map rd) = [rd w] := (sortI_uniq (List.Perm.refl _) (by simp)).symm
  rw [h]
  show (rd w + 0) / ((1 : Nat) : Int) = rd w
  simp
theorem tm_two (rd : Str → Int) (v w : Str) : ansF rd (tmU 0 ([v, w].map lfU)) = (rd v + rd w) / 2 := by
  rw [tm_ans]
  by_cases h : rd v ≤ rd w
  · have e : sortI ([v, w].map rd) = [rd v, rd w] := sortI_is (fun a => rfl) (by simp; exact h)
    rw [e]
    show (rd v + (rd w + 0)) / ((2 : Nat) : Int) = _
    simp
  · have e : sortI ([v, w].map rd) = [rd w, rd v] := sortI_is (fun a => by show List.count a [rd w, rd v] = List.count a [rd v, rd w]; simp only [List.count_cons, List.count_nil]; omega) (by simp; omega)
    rw [e]
    show (rd w + (rd v + 0)) / ((2 : Nat) : Int) = _
    rw [Int.add_zero, Int.add_comm]
    rfl
end G
set_option Elab.async false
set_option linter.all false
set_option maxRecDepth 100000
set_option maxHeartbeats 2000000
namespace G
open PySem PySem.Spec PyProof.Rows L2 StX
/-! ### zip of a list and a tuple -/
def ItzM (K : PySem.W.Frag) (a b : Addr) : It where
  go i H := ∃ xs ys x y, SqL K H a xs ∧ SqT K H b ys ∧ xs[i]? = some x ∧ ys[i]? = some y
  yld i H v H' := ∃ t x y, v = .ref t ∧ H t = none ∧ H' = upd H t (.tup [x, y]) ∧ (∀ xs, SqL K H a xs → xs[i]? = some x) ∧ (∀ ys, SqT K H b ys → ys[i]? = some y)
  stop i H := ∃ xs ys, (SqL K H a xs ∧ SqT K H b ys) ∧ (i ≤ xs.length ∧ i ≤ ys.length) ∧ (i = xs.length ∨ i = ys.length)
def ZmSt (z TI TO i1 i2 a b : Addr) (i : Nat) (h : Heap) : Prop :=
  IsZip h z TI TO .none ∧ IsTupOf2 h TI (.ref i1) (.ref i2) ∧ (∃ x y, IsTupOf2 h TO x y) ∧ h.IsListIter i1 a i ∧ h.IsTupleIter i2 b i
theorem zm_sep {z TI TO i1 i2 a b : Addr} (D : ZipApart z TI TO i1 i2 a b) : ZipSep2 z TI TO i1 i2 [i1, a] [i2, b] := by
  obtain ⟨d1, d2, d3, d4, d5, d6, d7, d8, d9, d10, d11, d12, d13, d14, d15, d16, d17, d18⟩ := D
  refine ⟨d1, d2, d5, d6, by simp, ?_, ?_, d7, by simp, ?_, ?_, ?_, ?_⟩ <;> simp <;> constructor <;> first | assumption | (apply Ne.symm; assumption)
theorem zm_obj {z TI TO i1 i2 a b : Addr} {i : Nat} {h : Heap} (st : ZmSt z TI TO i1 i2 a b i h) : ∀ c ∈ [z, TI, TO, i1, i2], ∃ o, h.get? c = some o ∧ ∀ v, o.data ≠ .cell v := by
  obtain ⟨hz, hTI, ⟨x, y, hTO⟩, ⟨o1, e1, _, d1⟩, ⟨o2, e2, _, d2⟩⟩ := st
  intro c hc
  simp only [List.mem_cons, List.not_mem_nil, or_false] at hc
  rcases hc with rfl | rfl | rfl | rfl | rfl
  · exact ⟨_, hz, fun v => Data.noConfusion⟩
  · exact ⟨_, hTI, fun v => Data.noConfusion⟩
  · exact ⟨_, hTO, fun v => Data.noConfusion⟩
  · refine ⟨o1, e1, fun v => ?_⟩
    rw [d1]
    exact Data.noConfusion
  · refine ⟨o2, e2, fun v => ?_⟩
    rw [d2]
    exact Data.noConfusion
theorem zm_keep {z TI TO i1 i2 a b : Addr} {i : Nat} {h h' : Heap} (st : ZmSt z TI TO i1 i2 a b i h) (k : ∀ c ∈ [z, TI, TO, i1, i2], ∀ o, h.get? c = some o → h'.get? c = some o) : ZmSt z TI TO i1 i2 a b i h' := by
  obtain ⟨hz, hTI, ⟨x, y, hTO⟩, h1, h2⟩ := st
  exact ⟨k _ (by simp) _ hz, k _ (by simp) _ hTI, ⟨x, y, k _ (by simp) _ hTO⟩, h1.at fun o q => k _ (by simp) o q, h2.at fun o q => k _ (by simp) o q⟩
theorem zm_turn {P : Program} {w : World} {K : PySem.W.Frag} {elts : List Expr} {kk : Nat} {tpos : Pos} {a b z TI TO i1 i2 : Addr} (D : ZipApart z TI TO i1 i2 a b) :
    Turn P w K (.Tuple elts kk tpos) (ItzM K a b) [z, TI, TO, i1, i2] z (ZmSt z TI TO i1 i2 a b) := by
  refine ⟨by simp, fun i h st => zm_obj st, fun i h h' st k => zm_keep st k, ?_, ?_, fun A i s Q E st h => wpAny_pyIter_zip st.1 h⟩
  · rintro X rfl rfl rfl hc i pins s σ H E I hf st ⟨xs, ys, x, y, qx, qy, hx, hy⟩
    have st0 := st
    obtain ⟨hz, hTI, ⟨x0, y0, hTO⟩, h1, h2⟩ := st
    obtain ⟨us, rv, p, _⟩ := I.list qx
    obtain ⟨us2, rv2, p2, _⟩ := I.tuple qy
    obtain ⟨u, hu, ru⟩ := rv.get hx
    obtain ⟨u2, hu2, ru2⟩ := rv2.get hy
    have lt1 : i < us.toArray.size := by rw [List.size_toArray]; exact (List.getElem?_eq_some_iff.mp hu).1
    have lt2 : i < us2.toArray.size := by rw [List.size_toArray]; exact (List.getElem?_eq_some_iff.mp hu2).1
    refine wpAny_pyNext_zipD2_item (zm_sep D) (Draws.list (prog := X.prog) (w := X.w) (A := X.A.in1) (I.ok.hd hc) i1 a D.l1i1 us.toArray) (Draws.tuple (prog := X.prog) (w := X.w) (A := X.A.in1) (I.ok.hd hc) i2 b D.l2i2 us2.toArray) hz hTI hTO ⟨h1, p.isList⟩ ⟨h2, p2⟩ lt1 lt2 fun v1 v2 h' tk g1 g2 z' TO' s1' s2' hT hsz hk => ?_
    have e1 : v1 = u := by
      have g1 : us.toArray[i]? = some v1 := g1
      rw [List.getElem?_toArray, hu] at g1
      exact (Option.some.inj g1).symm
    have e2 : v2 = u2 := by
      have g2 : us2.toArray[i]? = some v2 := g2
      rw [List.getElem?_toArray, hu2] at g2
      exact (Option.some.inj g2).symm
    subst e1 e2
    refine ⟨_, rfl, wpAny_letOwnedTupleGo_zip (s := { s with heap := h', toks := tk }) z' fun h2' z2 sb => ?_⟩
    have hzl : z < s.heap.objs.size := Heap.lt_size hz
    have hT2 := (sb.2 _ (Nat.ne_of_gt hzl)).trans hT
    have keep : ∀ c o, c ∉ [z, TI, TO, i1, i2] → s.heap.get? c = some o → h2'.get? c = some o := fun c o hn q => by
      simp only [List.mem_cons, List.not_mem_nil, or_false, not_or] at hn
      exact (sb.2 c hn.1).trans (hk c o hn.1 hn.2.2.1 hn.2.2.2.1 hn.2.2.2.2 q)
    have I2 : Inv X pins σ (upd H s.heap.objs.size (.tup [x, y])) { s with heap := h2', toks := tk } :=
      I.turnedNew (t' := tk) keep hf (Nat.le_refl _) (show ObjOk X.prog X.w _ h2' s.heap.objs.size (.tup [x, y]) from ⟨by show 2 ≤ sizeLine; decide, [v1, v2], .cons ru (.cons ru2 .nil), ⟨_, hT2, rfl, _, rfl⟩⟩)
    refine ⟨.ref s.heap.objs.size, _, I2, rfl, ⟨_, x, y, rfl, I.hok.fresh (Nat.le_refl _), rfl, fun l hl => by rw [I.list_inj hl qx]; exact hx, fun l hl => by rw [I.tuple_inj hl qy]; exact hy⟩, ?_, fun c hcm => ?_⟩
    · refine ⟨z2, (sb.2 _ D.TIz).trans (hk _ _ D.TIz D.TITO D.TIi1 D.TIi2 hTI), ⟨v1, v2, (sb.2 _ D.TOz).trans TO'⟩, ?_, ?_⟩
      · exact s1'.1.at fun o q => (sb.2 _ D.i1z).trans q
      · exact s2'.1.at fun o q => (sb.2 _ D.i2z).trans q
    · obtain ⟨o, ho, _⟩ := zm_obj st0 c hcm
      rw [upd_ne (Nat.ne_of_lt (Heap.lt_size ho))]
      exact (hf c hcm).1
  · rintro X rfl rfl rfl hc i pins s σ H E I hf ⟨hz, hTI, ⟨x0, y0, hTO⟩, h1, h2⟩ ⟨xs, ys, ⟨qx, qy⟩, ⟨le1, le2⟩, hend⟩
    obtain ⟨us, rv, p, _⟩ := I.list qx
    obtain ⟨us2, rv2, p2, _⟩ := I.tuple qy
    have n1 : us.toArray.size = xs.length := by rw [List.size_toArray, rv.length]
    have n2 : us2.toArray.size = ys.length := by rw [List.size_toArray, rv2.length]
    refine wpAny_pyNext_zipD2_end (zm_sep D) (Draws.list (prog := X.prog) (w := X.w) (A := X.A.in1) (I.ok.hd hc) i1 a D.l1i1 us.toArray) (Draws.tuple (prog := X.prog) (w := X.w) (A := X.A.in1) (I.ok.hd hc) i2 b D.l2i2 us2.toArray) hz hTI hTO ⟨h1, p.isList⟩ ⟨h2, p2⟩ (by rw [n1]; exact le1) (by rw [n2]; exact le2) (by rw [n1, n2]; exact hend) fun h' tk hk => ⟨rfl, ?_⟩
    refine I.turnedL (t' := tk) (ch := [z, TI, TO, i1, i2]) (fun c o hn q => ?_) hf
    simp only [List.mem_cons, List.not_mem_nil, or_false, not_or] at hn
    exact hk c o hn.1 hn.2.2.1 hn.2.2.2.1 hn.2.2.2.2 q
def iZipM (K : PySem.W.Frag) (ta : TA) : TI := fun σ H R => ta σ H fun vs H1 => ∃ a b xs ys, vs = [.ref a, .ref b] ∧ SqL K H1 a xs ∧ SqT K H1 b ys ∧ R (ItzM K a b) H1
theorem pi_zipM {X : Cx} {e e2 : Expr} {ta : TA} {p pos tpos : Pos} {elts : List Expr} {kk : Nat} (K : PySem.W.Frag) (hg : Gl X "zip") (hm : X.mg "zip" = none) (ha : PA X [e, e2] ta) (hK : X.K = K := by rfl)
    (hs : starEach [e, e2] X.env = (false, eval e X.env) :: starEach [e2] X.env := by rfl) (hpl : (backTo pos (starEach [e2] X.env)).any (·.1) = false := by rfl) :
    L2.PI X (.Tuple elts kk tpos) (.Call (.Name "zip" p) [e, e2] [] pos) (iZipM K ta) := by
  subst hK
  refine ⟨fun pins s σ H R I h => ?_⟩
  refine Call_ (ld_blt I hg hm PyProof.Rows.boot_zip (PyProof.Rows.callWith_type1 (thn (ha.run pos pins s σ H _ I h) fun us s1 ⟨vs, H1, I1, r1, a, b, xs, ys, ev, qx, qy, q⟩ => ?_) hs hpl))
  subst ev
  obtain ⟨u1, u2, rfl, ra, rb⟩ := r1.two
  obtain rfl : u1 = Value.ref a := ra
  obtain rfl : u2 = Value.ref b := rb
  obtain ⟨us, rv, p1, _⟩ := I1.list qx
  obtain ⟨us2, rv2, p2, _⟩ := I1.tuple qy
  obtain ⟨oa, hoa, _⟩ := p1.isList
  obtain ⟨ob, hob, _⟩ := id p2
  refine zip_begins2 (begins_list a us.toArray) (begins_tuple b us2.toArray) p1.isList p2 fun h' hz hTI hTO g1 g2 hsz hk => wpAny_pyIter_zip hz ?_
  have I2 : Inv X pins σ H1 { s1 with heap := h' } := I1.kept (t' := s1.toks) hk
  refine ⟨s1.heap.objs.size + 4, _, _, _, H1, rfl, I2, zm_turn (PySem.W.ktu_apart s1.heap.objs.size a b (Heap.lt_size hoa) (Heap.lt_size hob)), ⟨hz, hTI, ⟨_, _, hTO⟩, ⟨_, g1, rfl, rfl⟩, ⟨_, g2, rfl, rfl⟩⟩, fun c hc => ?_, q⟩
  have hle : s1.heap.objs.size ≤ c := by
    simp only [List.mem_cons, List.not_mem_nil, or_false] at hc
    rcases hc with rfl | rfl | rfl | rfl | rfl <;> first | exact Nat.le_refl _ | exact Nat.le_add_right _ _
  exact I1.fpOk hle (I1.hok.fresh hle)
end G
namespace G
open PySem PySem.Spec PyProof.Rows L2 StX
/-! ### comprehensions over any iteration -/
section
variable {W : Wd} {Γ : Gam} {ta : TA} {te tb tc : TE} {tt : TT} {g : TG} {wi : TI} {K : PySem.W.Frag}
theorem evF_lcI {α β : Type} {rα : Rep α} {rβ : Rep β} {vs : List Nat} {k : List β → Prop}
    (h : EvI W wi Γ fun as : List α => as.length ≤ 100000 ∧ ∃ I : Nat → List β → Prop, I 0 [] ∧
      (∀ W', Sub W W' → ∀ (i : Nat) (a : α) (bs : List β), as[i]? = some a → I i bs → LcTurn W' g tt te vs Γ a (I (i + 1) bs) fun y : β => I (i + 1) (bs ++ [y])) ∧ ∀ bs, I as.length bs → k bs) : EvF W (tLc wi g tt te vs) Γ k := by
  intro σ H Q G c
  refine h σ H _ G fun J H1 as e1 it ⟨hl, I, h0, hs, hf⟩ D n => ?_
  have G1 := G.ext e1
  have eD : Ext W H1 (upd H1 D (.lst [])) := Ext.new e1.ok n
  refine turns (J := J) (n := as.length) (fun i H' => Ext W H1 H' ∧ ∃ acc bs, H' D = some (.lst acc) ∧ Dl (den (W.toWc.plus D) H') acc bs ∧ acc.length ≤ i ∧ I i bs) ⟨eD, [], [], upd_same, .nil, Nat.le_refl _, h0⟩ (fun i H' hi ⟨e, _⟩ => it.go i H' e.keep hi) (fun H' ⟨e, _⟩ => it.stop H' e.keep) ?_ ?_
  · rintro i H' v H'' hi ⟨e, acc, bs, hD, hb, ha, q⟩ hy
    obtain ⟨a, ea, nw, _, dD⟩ := it.yld i H' v H'' e.keep (fun a m => W.live H' a e.ok m) hi hy
    have e2 := nw.ext e.ok
    have hD2 := nw.gr hD
    have kq : Kp (W.toWc.plus D) H' H'' := fun b o _ z => nw.gr z
    exact lc_turnN (I := I (i + 1)) (P := fun H' => Ext W H1 H' ∧ ∃ acc bs, H' D = some (.lst acc) ∧ Dl (den (W.toWc.plus D) H') acc bs ∧ acc.length ≤ i + 1 ∧ I (i + 1) bs) (hs _ (Sub.plus (n := n) (o1 := e1.ok) (w1 := G1.wish)) i a bs ea q) G1 (e.trans e2) hD2 (hb.imp fun _ _ d => Rep.mono kq d)
      (dD D _ n hD) (by omega) fun H2 acc2 bs2 e3 hD3 hb2 hl2 q2 => ⟨e3, acc2, bs2, hD3, hb2, by omega, q2⟩
  · rintro H' ⟨e, acc, bs, hD, hb, ha, q⟩
    exact c D H' acc bs (fresh_back e1.ok e1 n) (e1.trans e) hD hb (hf bs q)
theorem evF_lcIF {α β : Type} [rα : Rep α] [rβ : Rep β] {vs : List Nat} {k : List β → Prop} (p : α → Bool) (f : α → β)
    (h : EvI W wi Γ fun as : List α => as.length ≤ 100000 ∧ (∀ W', Sub W W' → ∀ a ∈ as, LcTurn W' g tt te vs Γ a (p a = false) fun y : β => p a = true ∧ y = f a) ∧ k ((as.filter p).map f)) : EvF W (tLc wi g tt te vs) Γ k :=
  evF_lcI fun σ H R G c => h σ H R G fun J H1 as e it ⟨hl, hs, q⟩ => c J H1 as e it ⟨hl, fun i bs => bs = ((as.take i).filter p).map f, by simp, lcF_turns p f hs, fun bs e2 => by rw [e2, List.take_length]; exact q⟩
/-- zip(a list, a tuple) -/
theorem ei_zipM {α β : Type} {rα : Rep α} {rβ : Rep β} {k : List (α × β) → Prop} (hK : W.B.K = K) (h : EvK W te Γ fun as : List α => EvK W tb Γ fun bs : Tl β => k (as.zip bs.xs)) : EvI W (iZipM K (tCons te (tCons tb tNil))) Γ k := by
  subst hK
  refine fun σ H R G c => h σ H _ G fun va H0 as e0 da h1 => h1 σ H0 _ (G.ext e0) fun vb H1 bs e1 ⟨p2, ys, hv2, hp2, hd2⟩ z => ?_
  obtain ⟨p1, xs, hv1, hp1, hd1⟩ := Rep.mono (W := W.toWc) (a := as) e1.keep da
  have hzl : (as.zip bs.xs).length = min xs.length ys.length := by rw [List.length_zip, hd1.length, hd2.length]
  refine ⟨p1, p2, xs, ys, by rw [hv1, hv2], hp1.sq, hp2.sq, c _ H1 _ (e0.trans e1) ⟨?_, ?_, ?_⟩ z⟩
  · intro i H' kp hi
    rw [hzl] at hi
    exact ⟨xs, ys, xs[i]'(by omega), ys[i]'(by omega), (hp1.mono kp).sq, (hp2.mono kp).sq, List.getElem?_eq_getElem (by omega), List.getElem?_eq_getElem (by omega)⟩
  · intro H' kp
    rw [hzl]
    exact ⟨xs, ys, ⟨(hp1.mono kp).sq, (hp2.mono kp).sq⟩, ⟨by omega, by omega⟩, by omega⟩
  · rintro i H' v H'' kp live hi ⟨t, x, y, rfl, ht, rfl, hx, hy⟩
    have hx := hx xs (hp1.mono kp).sq
    have hy := hy ys (hp2.mono kp).sq
    obtain ⟨a, ea, dx⟩ := hd1.at hx
    obtain ⟨b, eb, dy⟩ := hd2.at hy
    have nmt : ¬ W.mu t := fun m => by obtain ⟨o, e⟩ := live t m; rw [ht] at e; cases e
    have nw : Nw H' (upd H' t (.tup [x, y])) := .inr ⟨t, _, ht, rfl⟩
    refine ⟨(a, b), by rw [List.getElem?_zip_eq_some]; exact ⟨ea, eb⟩, nw, ⟨t, x, y, rfl, ⟨nmt, upd_same⟩, Rep.mono nw.kp (Rep.mono kp dx), Rep.mono nw.kp (Rep.mono kp dy)⟩, fun D o nD hD => ?_⟩
    have kk : ∀ {α : Type} [Rep α] {v : V} {a : α}, den W.toWc H1 v a → den (W.toWc.plus D) (upd H' t (.tup [x, y])) v a := fun d =>
      Rep.mono (W := W.toWc.plus D) nw.kp (Rep.mono (W := W.toWc.plus D) (fun b o mb z => kp b o (fun q => mb (.inl q)) z) (Rep.grow D nD d))
    exact ⟨t, x, y, rfl, ⟨fun m => m.elim nmt fun e => (by rw [e, hD] at ht; cases ht), upd_same⟩, kk dx, kk dy⟩
end
end G
namespace G
open PySem PySem.Spec PyProof.Rows L2 StX
/-- sum of a tuple of ints -/
def rSumT (K : PySem.W.Frag) : List V → Hp → VK → Prop := fun vs H Q => ∃ (a : Addr) (ns : List Int), vs = [V.ref a] ∧ SqT K H a (ns.map V.int) ∧ Q (.int ns.sum) H
theorem cr_sumT {X : Cx} (K : PySem.W.Frag) (hc : X.calm = true) (hK : X.K = K := by rfl) : CallR X (.builtin "sum") (rSumT K) := by
  subst hK
  rintro pins s σ H vs us Q I r ⟨a, ns, rfl, hs, q⟩
  obtain ⟨its, rv, p, _⟩ := I.tuple hs
  have hi := rv.ints
  obtain ⟨xs, e⟩ := hi.allInts.items
  have p' : s.heap.IsTuple a (intItems xs) := by rw [← e]; exact p
  have hn : (xs.toList.map (·.1)) = ns := by
    have h1 : numsOf (intItems xs).toList = ns := by rw [← e]; exact hi.numsOf
    exact (nums_intItems (xs := xs)).symm.trans h1
  rw [Vals.ref1 r]
  refine PySem.W.ktm_sumG (I.ok.hd hc) p' fun h' tk t' hk => ⟨.int ns.sum, H, I.kept hk, ⟨t', ?_⟩, q⟩
  rw [preSum_eq, List.take_of_length_le (by simp), hn]
theorem ev_sumT {W : Wd} {Γ : Gam} {te : TE} {K : PySem.W.Frag} {k : Int → Prop} (hK : W.B.K = K) (h : EvK W te Γ fun as : Tl Int => k as.xs.sum) : EvK W (tCB (rSumT K) (tCons te tNil)) Γ k := by
  subst hK
  refine fun σ H Q G c => h σ H _ G fun v H1 as e1 ⟨p, xs, hv, hp, hd⟩ z => ⟨p, as.xs, by rw [hv], ?_, c _ H1 _ e1 rfl z⟩
  have : xs = as.xs.map V.int := Dl.ints hd
  rw [← this]
  exact hp.sq
end G
namespace G
open PySem PySem.Spec PyProof.Rows L2 StX
theorem wUp_all {ns as : List Int} {m : Int} (hl : ns.length = as.length) (h : ∀ a ∈ as, a ≤ m) : wUp ns as m = ns.sum := by
  unfold wUp
  have e1 : ((as.zip ns).filter fun q => decide (q.1 ≤ m)) = as.zip ns := List.filter_eq_self.mpr fun q hq => decide_eq_true (h q.1 (List.of_mem_zip hq).1)
  rw [e1, ← List.unzip_snd, List.unzip_zip (by omega)]
/-- the greatest of a list -/
theorem has_max : ∀ {as : List Int}, 0 < as.length → ∃ m ∈ as, ∀ a ∈ as, a ≤ m
  | [], h => absurd h (by decide)
  | [a], _ => ⟨a, List.mem_cons_self, fun b hb => by rw [List.mem_singleton.mp hb]; exact Int.le_refl _⟩
  | a :: b :: r, _ => by
    obtain ⟨m, hm, hx⟩ := has_max (as := b :: r) (by simp)
    by_cases h : a ≤ m
    · exact ⟨m, List.mem_cons_of_mem _ hm, fun c hc => (List.mem_cons.mp hc).elim (fun e => e ▸ h) (hx c)⟩
    · exact ⟨a, List.mem_cons_self, fun c hc => (List.mem_cons.mp hc).elim (fun e => e ▸ Int.le_refl _) fun hc => by have := hx c hc; omega⟩
theorem wg_some {ns as : List Int} (hl : ns.length = as.length) (h0 : 0 < as.length) (hs : 0 ≤ ns.sum) : 0 < (as.filter fun a => decide (ns.sum ≤ 2 * wUp ns as a)).length := by
  obtain ⟨m, hm, hx⟩ := has_max h0
  refine List.length_pos_of_mem (List.mem_filter.mpr ⟨hm, decide_eq_true ?_⟩)
  rw [wUp_all hl hx]
  omega
def wgU (ns : List Int) (ps : List Ru) : Ru := .mk .weigh "weigh" ns ps (ps.all Ru.rk)
theorem wg_flat {ks : List RK} (h : RK.leaf ∈ ks) (h2 : RK.weigh ∈ ks) {ws : List Str} {ns : List Int} (hn : ns.length = ws.length) (h0 : ∀ w ∈ ns, 0 ≤ w) (h1 : 0 < ns.sum) (hl : ws.length ≤ 100) : FlatOk ks .weigh (wgU ns (ws.map lfU)) :=
  ⟨rfl, by show depRL (ws.map lfU) + 1 ≤ 8; rw [lf_dep]; decide, kdsR_node.mpr ⟨h2, lf_kds h ws⟩, okR_node.mpr ⟨⟨by show ns.length = (ws.map lfU).length; rw [List.length_map]; exact hn, h0, h1⟩, by show (ws.map lfU).length ≤ 100; rw [List.length_map]; exact hl, lf_ok ws⟩⟩
theorem wg_names (ns : List Int) (ws : List Str) : namesF (wgU ns (ws.map lfU)) = ws := lf_names ws
theorem wg_ans (rd : Str → Int) (ns : List Int) (ws : List Str) : ansF rd (wgU ns (ws.map lfU)) = minL ((ws.map rd).filter fun a => decide (ns.sum ≤ 2 * wUp ns (ws.map rd) a)) := by
  show nodeF .weigh ns (ansL rd (ws.map lfU)) = _
  rw [ansL_map, lf_ans]
  show (([minL ((ws.map rd).filter fun a => decide (ns.sum ≤ 2 * wUp ns (ws.map rd) a))] : List Int).sum) / ((1 : Nat) : Int) = _
  simp
end G
namespace G
theorem sum_pos_len {ns : List Int} (h : 0 < ns.sum) : 0 < ns.length := by
  cases ns with
  | nil => exact absurd h (by decide)
  | cons a r => exact Nat.succ_pos _
end G
namespace G
open PySem PySem.Spec PyProof.Rows L2 StX
/-- list(x), x a list -/
theorem evF_listOf {α : Type} {rα : Rep α} {W : Wd} {Γ : Gam} {te : TE} {K : PySem.W.Frag} {k : List α → Prop} (hK : W.B.K = K) (h : EvK W te Γ fun as : List α => k as) :
    EvF W (tCB (fun xs H Q => ∃ p ys, xs = [V.ref p] ∧ (SqL K H p ys ∨ SqT K H p ys) ∧ ∀ l, H l = none → Q (V.ref l) (upd H l (HO.lst ys))) (tCons te tNil)) Γ k := by
  subst hK
  refine fun σ H Q G c => h σ H _ G fun v H1 as e1 ⟨p, xs, hv, hp, hd⟩ z => ⟨p, xs, by rw [hv], .inl hp.sq, fun l hl => ?_⟩
  have e2 := Ext.new (o := .lst xs) e1.ok hl
  refine c l _ xs as (fresh_back e1.ok e1 hl) (e1.trans e2) upd_same (hd.imp fun _ _ d => ?_) z
  exact Rep.mono (W := W.toWc.plus l) (fun b o m q => e2.keep b o (fun z => m (.inl z)) q) (Rep.grow l hl d)
theorem sum_nn : ∀ {ns : List Int}, (∀ w ∈ ns, 0 ≤ w) → 0 ≤ ns.sum
  | [], _ => Int.le_refl _
  | a :: r, h => by
    have h1 := h a List.mem_cons_self
    have h2 := sum_nn (ns := r) fun w hw => h w (List.mem_cons_of_mem _ hw)
    rw [List.sum_cons]
    omega
theorem sum_some : ∀ {ns : List Int} {a : Int}, (∀ w ∈ ns, 0 ≤ w) → a ∈ ns → a ≤ ns.sum
  | [], _, _, h => by cases h
  | b :: r, a, h, ha => by
    have h2 := sum_nn (ns := r) fun w hw => h w (List.mem_cons_of_mem _ hw)
    have h1 := h b List.mem_cons_self
    rw [List.sum_cons]
    rcases List.mem_cons.mp ha with rfl | ha
    · omega
    · have := sum_some (ns := r) (fun w hw => h w (List.mem_cons_of_mem _ hw)) ha
      omega
/-- the weights of the numbers below m -/
def wLo (ns as : List Int) (m : Int) : Int := (((as.zip ns).filter fun q => decide (q.1 < m)).map fun q => q.2).sum
theorem wLo_up {ns as : List Int} {m : Int} (hns : ∀ w ∈ ns, 0 ≤ w) : wLo ns as m = 0 ∨ ∃ u ∈ as, u < m ∧ wLo ns as m = wUp ns as u := by
  unfold wLo wUp
  by_cases h : ∃ u ∈ as, u < m
  · obtain ⟨u, hu, hx⟩ := has_max (as := as.filter fun a => decide (a < m)) (by
      obtain ⟨u, hu, hm⟩ := h
      exact List.length_pos_of_mem (List.mem_filter.mpr ⟨hu, decide_eq_true hm⟩))
    obtain ⟨hu1, hu2⟩ := List.mem_filter.mp hu
    refine .inr ⟨u, hu1, of_decide_eq_true hu2, ?_⟩
    congr 2
    refine List.filter_congr fun q hq => decide_eq_decide.mpr ⟨fun hlt => hx q.1 (List.mem_filter.mpr ⟨(List.of_mem_zip hq).1, decide_eq_true hlt⟩), fun hle => ?_⟩
    have := of_decide_eq_true hu2
    omega
  · refine .inl ?_
    have e : ((as.zip ns).filter fun q => decide (q.1 < m)) = [] := List.filter_eq_nil_iff.mpr fun q hq hd => h ⟨q.1, (List.of_mem_zip hq).1, of_decide_eq_true hd⟩
    rw [e]
    rfl
/-- what the least number with half of the weight is like -/
theorem wg_right {ns as : List Int} {t : Int} (hl : ns.length = as.length) (h0 : 0 < as.length) (hns : ∀ w ∈ ns, 0 ≤ w) (hs : 0 < ns.sum) (ht : t = minL (as.filter fun a => decide (ns.sum ≤ 2 * wUp ns as a))) :
    t ∈ as ∧ ns.sum ≤ 2 * wUp ns as t ∧ 2 * wLo ns as t < ns.sum := by
  have hne := wg_some hl h0 (by omega)
  have hm := minL_mem (as := as.filter fun a => decide (ns.sum ≤ 2 * wUp ns as a)) (fun e => by rw [e] at hne; exact absurd hne (by decide))
  rw [← ht] at hm
  obtain ⟨h1, h2⟩ := List.mem_filter.mp hm
  refine ⟨h1, of_decide_eq_true h2, ?_⟩
  rcases wLo_up (ns := ns) (as := as) (m := t) hns with h | ⟨u, hu, hut, he⟩
  · omega
  · refine Classical.byContradiction fun hc => ?_
    have hf : u ∈ as.filter fun a => decide (ns.sum ≤ 2 * wUp ns as a) := List.mem_filter.mpr ⟨hu, decide_eq_true (by omega)⟩
    have := minL_le hf
    omega
theorem zip_take_sum {as ns : List Int} {p : Int → Bool} {i : Nat} {a n : Int} (h1 : as[i]? = some a) (h2 : ns[i]? = some n) :
    ((((as.zip ns).take (i + 1)).filter fun q => p q.1).map fun q => q.2).sum = ((((as.zip ns).take i).filter fun q => p q.1).map fun q => q.2).sum + (if p a = true then n else 0) := by
  have hz : (as.zip ns)[i]? = some (a, n) := by rw [List.getElem?_zip_eq_some]; exact ⟨h1, h2⟩
  rw [List.take_succ, hz, List.filter_append, List.map_append, List.sum_append]
  cases hp : p a with
  | true =>
    rw [if_pos rfl]
    have : List.filter (fun q : Int × Int => p q.1) (some (a, n)).toList = [(a, n)] := List.filter_cons_of_pos hp
    rw [this]
    simp
  | false =>
    rw [if_neg (by decide)]
    have : List.filter (fun q : Int × Int => p q.1) (some (a, n)).toList = [] := List.filter_cons_of_neg (by rw [hp]; decide)
    rw [this]
    rfl
end G
namespace G
open PySem PySem.Spec PyProof.Rows L2 StX
theorem pair_low (t : Int) : minL (([t, t + 1] : List Int).filter fun a => decide ((([2, 2] : List Int)).sum ≤ 2 * wUp [2, 2] [t, t + 1] a)) = t := by
  have h1 : wUp [2, 2] [t, t + 1] t = 2 := by
    have h' : ¬ t + 1 ≤ t := by omega
    simp [wUp, List.filter_cons, h']
  have h2 : wUp [2, 2] [t, t + 1] (t + 1) = 4 := by
    have : t ≤ t + 1 := by omega
    simp [wUp, List.filter_cons, this]
  rw [List.filter_cons_of_pos (by rw [h1]; decide), List.filter_cons_of_pos (by rw [h2]; decide)]
  show min t (t + 1) = t
  omega
theorem pair_tall (t : Int) : minL (([t, t + 1] : List Int).filter fun a => decide ((([2, 3] : List Int)).sum ≤ 2 * wUp [2, 3] [t, t + 1] a)) = t + 1 := by
  have h1 : wUp [2, 3] [t, t + 1] t = 2 := by
    have h' : ¬ t + 1 ≤ t := by omega
    simp [wUp, List.filter_cons, h']
  have h2 : wUp [2, 3] [t, t + 1] (t + 1) = 5 := by
    have : t ≤ t + 1 := by omega
    simp [wUp, List.filter_cons, this]
  rw [List.filter_cons_of_neg (by rw [h1]; decide), List.filter_cons_of_pos (by rw [h2]; decide)]
  rfl
def ab : List Str := ["a", "b"]
def smp2 (t : Int) : List (Str × Int) := [("b", t + 1), ("a", t)]
theorem smp2_rd (t : Int) : ab.map (rdF (smp2 t)) = [t, t + 1] := by
  show [rdF (smp2 t) (Str.ofString "a"), rdF (smp2 t) (Str.ofString "b")] = _
  unfold smp2
  simp only [rdF_c]
  rw [if_neg (by decide +kernel), if_pos trivial, if_pos trivial]
theorem smp2_has (t : Int) : ∀ n ∈ ab, (getDc (smp2 t) n).isSome = true := by
  intro n hn
  unfold ab at hn
  unfold smp2
  simp only [List.mem_cons, List.not_mem_nil, or_false] at hn
  rcases hn with rfl | rfl <;> simp only [getDc_c] <;> repeat (first | rw [if_pos trivial] | rw [if_pos rfl] | rw [if_neg (by decide +kernel)])
  all_goals rfl
end G
namespace G
open PySem PySem.Spec PyProof.Rows L2 StX
theorem wLo_is {ns as : List Int} {m : Int} : wLo ns as m = ((((as.zip ns).take (as.zip ns).length).filter fun q => (fun x : Int => decide (x < m)) q.1).map fun q => q.2).sum := by rw [List.take_length]; rfl
theorem wUp_is {ns as : List Int} {m : Int} : wUp ns as m = ((((as.zip ns).take (as.zip ns).length).filter fun q => (fun x : Int => decide (x ≤ m)) q.1).map fun q => q.2).sum := by rw [List.take_length]; rfl
end G
set_option Elab.async false
set_option linter.all false
set_option maxRecDepth 100000
set_option maxHeartbeats 2000000
namespace G
open PySem PySem.Spec PyProof.Rows L2 StX
/-! ### the trees of the laws, held against the rules that they stand for -/
structure Tt where
  r : Ru
def trN : RK → Str
  | .leaf => "leaf"
  | .rank => "rank"
  | .trim => "trim"
  | .weigh => "weigh"
def trX (W : Wc) (H : Hp) (x : V) (k : RK) (lb : Str) (ns : List Int) : Prop := match k with
  | .leaf => x = .str lb
  | .rank => ∃ n, ns = [n] ∧ x = .int n
  | .trim => ∃ n, ns = [n] ∧ x = .int n
  | .weigh => ∃ q, x = .ref q ∧ Lq W H q (ns.map V.int)
theorem trX_mono {W : Wc} {H H' : Hp} {x : V} {k : RK} {lb : Str} {ns : List Int} (e : Kp W H H') (h : trX W H x k lb ns) : trX W H' x k lb ns := by
  cases k with
  | weigh => obtain ⟨q, h1, h2⟩ := h; exact ⟨q, h1, h2.mono e⟩
  | _ => exact h
theorem trX_grow {W : Wc} {H : Hp} {x : V} {k : RK} {lb : Str} {ns : List Int} (D : Addr) (n : H D = none) (h : trX W H x k lb ns) : trX (W.plus D) H x k lb ns := by
  cases k with
  | weigh => obtain ⟨q, h1, h2⟩ := h; exact ⟨q, h1, h2.grow D n⟩
  | _ => exact h
theorem trX_shrink {W : Wc} {H : Hp} {x : V} {k : RK} {lb : Str} {ns : List Int} (D : Addr) (h : trX (W.plus D) H x k lb ns) : trX W H x k lb ns := by
  cases k with
  | weigh => obtain ⟨q, h1, h2⟩ := h; exact ⟨q, h1, h2.shrink D⟩
  | _ => exact h
mutual
def trD (W : Wc) (H : Hp) (v : V) : Ru → Prop
  | .mk k lb ns ps rk => ∃ p x lp vs, v = .ref p ∧ Tq W H p [.str (trN k), x, .ref lp] ∧ trX W H x k lb ns ∧ Lq W H lp vs ∧ trL W H vs ps
def trL (W : Wc) (H : Hp) (vs : List V) : List Ru → Prop
  | [] => vs = []
  | p :: ps => ∃ v r, vs = v :: r ∧ trD W H v p ∧ trL W H r ps
end
mutual
theorem trD_mono {W : Wc} {H H' : Hp} (e : Kp W H H') : ∀ (v : V) (r : Ru), trD W H v r → trD W H' v r
  | v, .mk k lb ns ps rk, h => by
    unfold trD at h ⊢
    obtain ⟨p, x, lp, vs, hv, h1, h2, h3, h4⟩ := h
    exact ⟨p, x, lp, vs, hv, h1.mono e, trX_mono e h2, h3.mono e, trL_mono e _ _ h4⟩
theorem trL_mono {W : Wc} {H H' : Hp} (e : Kp W H H') : ∀ (vs : List V) (r : List Ru), trL W H vs r → trL W H' vs r
  | vs, [], h => by unfold trL at h ⊢; exact h
  | vs, p :: ps, h => by
    unfold trL at h ⊢
    obtain ⟨v, r, hv, h1, h2⟩ := h
    exact ⟨v, r, hv, trD_mono e _ _ h1, trL_mono e _ _ h2⟩
end
mutual
theorem trD_grow {W : Wc} {H : Hp} (D : Addr) (n : H D = none) : ∀ (v : V) (r : Ru), trD W H v r → trD (W.plus D) H v r
  | v, .mk k lb ns ps rk, h => by
    unfold trD at h ⊢
    obtain ⟨p, x, lp, vs, hv, h1, h2, h3, h4⟩ := h
    exact ⟨p, x, lp, vs, hv, h1.grow D n, trX_grow D n h2, h3.grow D n, trL_grow D n _ _ h4⟩
theorem trL_grow {W : Wc} {H : Hp} (D : Addr) (n : H D = none) : ∀ (vs : List V) (r : List Ru), trL W H vs r → trL (W.plus D) H vs r
  | vs, [], h => by unfold trL at h ⊢; exact h
  | vs, p :: ps, h => by
    unfold trL at h ⊢
    obtain ⟨v, r, hv, h1, h2⟩ := h
    exact ⟨v, r, hv, trD_grow D n _ _ h1, trL_grow D n _ _ h2⟩
end
mutual
theorem trD_shrink {W : Wc} {H : Hp} (D : Addr) : ∀ (v : V) (r : Ru), trD (W.plus D) H v r → trD W H v r
  | v, .mk k lb ns ps rk, h => by
    unfold trD at h ⊢
    obtain ⟨p, x, lp, vs, hv, h1, h2, h3, h4⟩ := h
    exact ⟨p, x, lp, vs, hv, h1.shrink D, trX_shrink D h2, h3.shrink D, trL_shrink D _ _ h4⟩
theorem trL_shrink {W : Wc} {H : Hp} (D : Addr) : ∀ (vs : List V) (r : List Ru), trL (W.plus D) H vs r → trL W H vs r
  | vs, [], h => by unfold trL at h ⊢; exact h
  | vs, p :: ps, h => by
    unfold trL at h ⊢
    obtain ⟨v, r, hv, h1, h2⟩ := h
    exact ⟨v, r, hv, trD_shrink D _ _ h1, trL_shrink D _ _ h2⟩
end
instance : Rep Tt := ⟨fun W H v t => trD W H v t.r, fun e h => trD_mono e _ _ h, fun D n h => trD_grow D n _ _ h, fun D h => trD_shrink D _ _ h⟩
theorem trL_dl {W : Wc} {H : Hp} : ∀ {vs : List V} {ps : List Ru}, trL W H vs ps ↔ Dl (den W H) vs (ps.map Tt.mk)
  | vs, [] => by
    unfold trL
    constructor
    · rintro rfl; exact .nil
    · intro h; cases h; rfl
  | vs, p :: ps => by
    unfold trL
    constructor
    · rintro ⟨v, r, rfl, h1, h2⟩
      exact .cons h1 (trL_dl.mp h2)
    · intro h
      cases h with
      | cons h1 h2 => exact ⟨_, _, rfl, h1, trL_dl.mpr h2⟩
theorem tr_den {W : Wc} {H : Hp} {v : V} {t : Tt} : den W H v t ↔ ∃ p x lp vs, v = .ref p ∧ Tq W H p [.str (trN t.r.k), x, .ref lp] ∧ trX W H x t.r.k t.r.lb t.r.ns ∧ Lq W H lp vs ∧ Dl (den W H) vs (t.r.ps.map Tt.mk) := by
  obtain ⟨k, lb, ns, ps, rk⟩ := t
  show trD W H v _ ↔ _
  unfold trD
  constructor
  · rintro ⟨p, x, lp, vs, h1, h2, h3, h4, h5⟩
    exact ⟨p, x, lp, vs, h1, h2, h3, h4, trL_dl.mp h5⟩
  · rintro ⟨p, x, lp, vs, h1, h2, h3, h4, h5⟩
    exact ⟨p, x, lp, vs, h1, h2, h3, h4, trL_dl.mpr h5⟩
section
variable {W : Wd} {Γ : Gam} {te ta tb tc : TE} {K : PySem.W.Frag}
theorem ev_tr0 {k : Str → Prop} (hK : W.B.K = K) (h : EvK W te Γ fun t : Tt => k (trN t.r.k)) : EvK W (tOp (rIxT K) te (tC (.int 0))) Γ k := by
  subst hK
  refine fun σ H Q E c => h σ H _ E fun v H1 t e1 d q => ?_
  obtain ⟨p, x, lp, vs, hv, s, hx, hl, hd⟩ := tr_den.mp d
  exact ⟨p, _, 0, _, hv, rfl, s.sq, rfl, c _ H1 _ e1 rfl q⟩
theorem ev_tr2 {k : List Tt → Prop} (hK : W.B.K = K) (h : EvK W te Γ fun t : Tt => k (t.r.ps.map Tt.mk)) : EvK W (tOp (rIxT K) te (tC (.int 2))) Γ k := by
  subst hK
  refine fun σ H Q E c => h σ H _ E fun v H1 t e1 d q => ?_
  obtain ⟨p, x, lp, vs, hv, s, hx, hl, hd⟩ := tr_den.mp d
  exact ⟨p, _, 2, _, hv, rfl, s.sq, rfl, c _ H1 _ e1 ⟨lp, vs, rfl, hl, hd⟩ q⟩
theorem ev_tr1w {k : Str → Prop} (hK : W.B.K = K) (h : EvK W te Γ fun t : Tt => t.r.k = .leaf ∧ k t.r.lb) : EvK W (tOp (rIxT K) te (tC (.int 1))) Γ k := by
  subst hK
  refine fun σ H Q E c => h σ H _ E fun v H1 t e1 d ⟨hk, q⟩ => ?_
  obtain ⟨p, x, lp, vs, hv, s, hx, hl, hd⟩ := tr_den.mp d
  rw [hk] at hx
  exact ⟨p, _, 1, _, hv, rfl, s.sq, rfl, c _ H1 _ e1 hx q⟩
theorem ev_tr1n {k : Int → Prop} (hK : W.B.K = K) (h : EvK W te Γ fun t : Tt => (t.r.k = .rank ∨ t.r.k = .trim) ∧ ∃ n, t.r.ns = [n] ∧ k n) : EvK W (tOp (rIxT K) te (tC (.int 1))) Γ k := by
  subst hK
  refine fun σ H Q E c => h σ H _ E fun v H1 t e1 d ⟨hk, n, hn, q⟩ => ?_
  obtain ⟨p, x, lp, vs, hv, s, hx, hl, hd⟩ := tr_den.mp d
  have hx' : x = .int n := by
    rcases hk with hk | hk <;> rw [hk, hn] at hx <;> obtain ⟨m, h1, h2⟩ := hx <;> cases h1 <;> exact h2
  exact ⟨p, _, 1, _, hv, rfl, s.sq, rfl, c _ H1 _ e1 hx' q⟩
theorem ev_tr1l {k : List Int → Prop} (hK : W.B.K = K) (h : EvK W te Γ fun t : Tt => t.r.k = .weigh ∧ k t.r.ns) : EvK W (tOp (rIxT K) te (tC (.int 1))) Γ k := by
  subst hK
  refine fun σ H Q E c => h σ H _ E fun v H1 t e1 d ⟨hk, q⟩ => ?_
  obtain ⟨p, x, lp, vs, hv, s, hx, hl, hd⟩ := tr_den.mp d
  rw [hk] at hx
  obtain ⟨a, h1, h2⟩ := hx
  exact ⟨p, _, 1, _, hv, rfl, s.sq, rfl, c _ H1 _ e1 ⟨a, _, h1, h2, Dl.of_ints _⟩ q⟩
theorem ev_mkt {α : Type} {rα : Rep α} {k : Tt → Prop} (h : EvK W ta Γ fun s : Str => EvK W tb Γ fun b : α => EvK W tc Γ fun ts : List Tt => ∃ r : Ru, s = trN r.k ∧ ts = r.ps.map Tt.mk ∧ (∀ (W : Wc) H x, den W H x b → trX W H x r.k r.lb r.ns) ∧ k ⟨r⟩) : EvK W (tTup (tCons ta (tCons tb (tCons tc tNil)))) Γ k := fun σ H Q E c =>
  ev_tup3 (k := fun t3 : T3 Str α (List Tt) => ∃ r : Ru, t3.a = trN r.k ∧ t3.c = r.ps.map Tt.mk ∧ (∀ (W : Wc) H x, den W H x t3.b → trX W H x r.k r.lb r.ns) ∧ k ⟨r⟩) h σ H Q E fun v H1 t3 e d ⟨r, h1, h2, h3, q⟩ => c v H1 ⟨r⟩ e (by
    obtain ⟨p, x, y, z, hv, s, d1, d2, lp, vs, hz, hl, hd⟩ := d
    have d1 : x = .str t3.a := d1
    rw [d1, h1, hz] at s
    rw [h2] at hd
    exact tr_den.mpr ⟨p, y, lp, vs, hv, s, h3 _ _ _ d2, hl, hd⟩) q
end
theorem trX_leaf {lb : Str} (W : Wc) (H : Hp) (x : V) (h : den W H x lb) : trX W H x .leaf lb [] := h
theorem trX_rank {lb : Str} {n : Int} (W : Wc) (H : Hp) (x : V) (h : den W H x n) : trX W H x .rank lb [n] := ⟨n, rfl, h⟩
theorem trX_trim {lb : Str} {n : Int} (W : Wc) (H : Hp) (x : V) (h : den W H x n) : trX W H x .trim lb [n] := ⟨n, rfl, h⟩
theorem trX_weigh {lb : Str} {ns : List Int} (W : Wc) (H : Hp) (x : V) (h : den W H x ns) : trX W H x .weigh lb ns := by
  obtain ⟨q, vs, hv, hl, hd⟩ := h
  have : vs = ns.map V.int := hd.ints
  exact ⟨q, hv, this ▸ hl⟩
/-! ### well-made rules -/
def nodeU (k : RK) (ns : List Int) (ps : List Ru) : Ru := .mk k (trN k) ns ps (decide (k ≠ .trim) && ps.all Ru.rk)
mutual
def wfR : Ru → Prop
  | .mk k lb ns ps rk => (k = .leaf → ns = [] ∧ ps = [] ∧ rk = true) ∧ (k ≠ .leaf → lb = trN k ∧ rk = (decide (k ≠ .trim) && ps.all Ru.rk)) ∧ wfL ps
def wfL : List Ru → Prop
  | [] => True
  | p :: ps => wfR p ∧ wfL ps
end
theorem wfL_mem {p : Ru} : ∀ {ps : List Ru}, wfL ps → p ∈ ps → wfR p
  | [], _, h => by cases h
  | q :: ps, ho, h => by
    have ho : wfR q ∧ wfL ps := ho
    rcases List.mem_cons.mp h with rfl | h
    · exact ho.1
    · exact wfL_mem ho.2 h
theorem wfL_of : ∀ {ps : List Ru}, (∀ p ∈ ps, wfR p) → wfL ps
  | [], _ => trivial
  | q :: ps, h => ⟨h q List.mem_cons_self, wfL_of fun p hp => h p (List.mem_cons_of_mem _ hp)⟩
theorem wf_leaf {r : Ru} (h : wfR r) (hk : r.k = .leaf) : r = lfU r.lb := by
  obtain ⟨k, lb, ns, ps, rk⟩ := r
  unfold wfR at h
  obtain ⟨h1, h2, h3⟩ := h.1 hk
  cases hk
  subst h1 h2 h3
  rfl
theorem wf_node {r : Ru} (h : wfR r) (hk : r.k ≠ .leaf) : r = nodeU r.k r.ns r.ps ∧ wfL r.ps := by
  obtain ⟨k, lb, ns, ps, rk⟩ := r
  unfold wfR at h
  obtain ⟨h1, h2⟩ := h.2.1 hk
  subst h1 h2
  exact ⟨rfl, h.2.2⟩
/-- a rule that a tree may stand for -/
structure TrOk (d : Nat) (r : Ru) : Prop where
  wf : wfR r
  ok : okR r
  kds : kdsR [.leaf, .rank, .trim, .weigh] r
  dep : depR r ≤ d
theorem depRL_le {d : Nat} : ∀ {ps : List Ru}, (∀ p ∈ ps, depR p ≤ d) → depRL ps ≤ d
  | [], _ => Nat.zero_le _
  | q :: ps, h => by
    show max (depR q) (depRL ps) ≤ d
    exact Nat.max_le.mpr ⟨h q List.mem_cons_self, depRL_le fun p hp => h p (List.mem_cons_of_mem _ hp)⟩
theorem trok_leaf (w : Str) : TrOk 0 (lfU w) :=
  ⟨by unfold lfU wfR; exact ⟨fun _ => ⟨rfl, rfl, rfl⟩, fun h => absurd rfl h, trivial⟩, okR_node.mpr ⟨trivial, by show 0 ≤ 100; decide, trivial⟩, kdsR_node.mpr ⟨by show RK.leaf ∈ _; decide, trivial⟩, Nat.le_refl _⟩
theorem trok_node {d : Nat} {k : RK} {ns : List Int} {ps : List Ru} (hk : k ≠ .leaf) (hn : numOk k ns ps.length) (hl : ps.length ≤ 100) (h : ∀ p ∈ ps, TrOk d p) : TrOk (d + 1) (nodeU k ns ps) :=
  ⟨by unfold nodeU wfR; exact ⟨fun h => absurd h hk, fun _ => ⟨rfl, rfl⟩, wfL_of fun p hp => (h p hp).wf⟩, okR_node.mpr ⟨hn, hl, okRL_of fun p hp => (h p hp).ok⟩,
   kdsR_node.mpr ⟨by show k ∈ _; cases k <;> simp, kdsRL_of fun p hp => (h p hp).kds⟩, by
    rw [depR_node (r := nodeU k ns ps) hk]
    exact Nat.succ_le_succ (depRL_le fun p hp => (h p hp).dep)⟩
theorem TrOk.le {d d' : Nat} {r : Ru} (h : TrOk d r) (l : d ≤ d') : TrOk d' r := ⟨h.wf, h.ok, h.kds, Nat.le_trans h.dep l⟩
theorem TrOk.part {d : Nat} {r : Ru} (h : TrOk (d + 1) r) (hk : r.k ≠ .leaf) : ∀ p ∈ r.ps, TrOk d p := fun p hp =>
  ⟨wfL_mem (wf_node h.wf hk).2 hp, okRL_mem (okR_node.mp h.ok).2.2 hp, kdsRL_mem (kdsR_node.mp h.kds).2 hp, by
    have h1 := h.dep
    rw [depR_node hk] at h1
    have := depR_mem hp
    omega⟩
theorem namesF_nodeU {k : RK} {ns : List Int} {ps : List Ru} (hk : k ≠ .leaf) : namesF (nodeU k ns ps) = namesL ps := by
  rw [namesF_node (r := nodeU k ns ps) hk, namesL_flat]
  rfl
theorem namesL_app (a b : List Ru) : namesL (a ++ b) = namesL a ++ namesL b := by
  rw [namesL_flat, namesL_flat, namesL_flat, List.flatMap_append]
end G
namespace G
open PySem PySem.Spec PyProof.Rows L2 StX
section
variable {W : Wd} {Γ : Gam} {te tb : TE} {K : PySem.W.Frag}
/-- xs[a:] -/
theorem ev_fromN {α : Type} {rα : Rep α} {k : List α → Prop} (hK : W.B.K = K) (h : EvK W te Γ fun as : List α => EvK W tb Γ fun n : Int => (0 ≤ n ∧ n ≤ as.length) ∧ k (as.drop n.toNat)) : EvK W (tSl (rSlL K) te (tPart tb) tNoPart) Γ k := by
  subst hK
  refine fun σ H Q G c => h σ H _ G fun v H1 as e1 d1 h1 => ?_
  refine h1 σ H1 _ (G.ext e1) fun u H2 n e2 d2 ⟨⟨hn, hm⟩, z⟩ => ⟨n, d2, ?_⟩
  obtain ⟨p, vs, hv, hp, hd⟩ := Rep.mono (W := W.toWc) (a := as) e2.keep d1
  refine ⟨p, vs, hv, hp.sq, fun q hq => ?_⟩
  obtain ⟨n', rfl⟩ : ∃ j : Nat, n = j := ⟨n.toNat, by omega⟩
  have hvl := hd.length
  have e : cutV vs (some (n' : Int)) none = vs.drop n' := by
    unfold cutV
    rw [sIx_nn, Nat.min_eq_left (by omega), show HT.sIx vs.length vs.length none = vs.length from rfl]
    exact List.take_of_length_le (by rw [List.length_drop]; omega)
  rw [e]
  rw [Int.toNat_natCast] at z
  have e4 := Ext.new (o := .lst (vs.drop n')) e2.ok hq
  exact c (.ref q) _ _ ((e1.trans e2).trans e4) ⟨q, _, rfl, Lq.new (fresh_mu e2.ok hq) upd_same, (dl_drop n' hd).imp fun _ _ d => Rep.mono e4.keep d⟩ z
end
end G
set_option Elab.async false
set_option linter.all false
set_option maxRecDepth 100000
set_option maxHeartbeats 2000000
namespace G
open PySem
/-- each of a list at most its fellow -/
def LeL : List Int → List Int → Prop
  | [], [] => True
  | a :: as, b :: bs => a ≤ b ∧ LeL as bs
  | _, _ => False
theorem LeL.length : ∀ {as bs : List Int}, LeL as bs → as.length = bs.length
  | [], [], _ => rfl
  | a :: as, b :: bs, h => congrArg (· + 1) (LeL.length h.2)
  | [], b :: bs, h => h.elim
  | a :: as, [], h => h.elim
theorem LeL.drop : ∀ (n : Nat) {as bs : List Int}, LeL as bs → LeL (as.drop n) (bs.drop n)
  | 0, _, _, h => h
  | n + 1, [], [], h => trivial
  | n + 1, a :: as, b :: bs, h => LeL.drop n h.2
  | n + 1, [], b :: bs, h => h.elim
  | n + 1, a :: as, [], h => h.elim
theorem LeL.take : ∀ (n : Nat) {as bs : List Int}, LeL as bs → LeL (as.take n) (bs.take n)
  | 0, _, _, h => trivial
  | n + 1, [], [], h => trivial
  | n + 1, a :: as, b :: bs, h => ⟨h.1, LeL.take n h.2⟩
  | n + 1, [], b :: bs, h => h.elim
  | n + 1, a :: as, [], h => h.elim
theorem LeL.sum : ∀ {as bs : List Int}, LeL as bs → as.sum ≤ bs.sum
  | [], [], _ => Int.le_refl _
  | a :: as, b :: bs, h => by
    rw [List.sum_cons, List.sum_cons]
    have := LeL.sum h.2
    have := h.1
    omega
  | [], b :: bs, h => h.elim
  | a :: as, [], h => h.elim
theorem LeL.of_at : ∀ {as bs : List Int}, as.length = bs.length → (∀ i, i < as.length → as.getD i 0 ≤ bs.getD i 0) → LeL as bs
  | [], [], _, _ => trivial
  | a :: as, b :: bs, hl, h => ⟨h 0 (by simp), LeL.of_at (by simpa using hl) fun i hi => h (i + 1) (by simp; omega)⟩
  | [], b :: bs, hl, _ => by simp at hl
  | a :: as, [], hl, _ => by simp at hl
theorem LeL.at_ : ∀ {as bs : List Int} (i : Nat), LeL as bs → as.getD i 0 ≤ bs.getD i 0
  | [], [], _, _ => Int.le_refl _
  | a :: as, b :: bs, 0, h => h.1
  | a :: as, b :: bs, i + 1, h => by
    have := LeL.at_ i h.2
    simpa using this
  | [], b :: bs, _, h => h.elim
  | a :: as, [], _, h => h.elim
theorem cnt_sorted {t : Int} : ∀ {s : List Int} {i : Nat}, s.Pairwise (· ≤ ·) → i < s.length → (s.getD i 0 ≤ t ↔ i < (s.filter fun a => decide (a ≤ t)).length)
  | [], _, _, h => by simp at h
  | a :: r, i, hs, hi => by
    have hp := List.pairwise_cons.mp hs
    by_cases ha : a ≤ t
    · rw [List.filter_cons_of_pos (by exact decide_eq_true ha), List.length_cons]
      cases i with
      | zero => exact ⟨fun _ => by omega, fun _ => ha⟩
      | succ j =>
        have := cnt_sorted (t := t) (i := j) hp.2 (by simpa using hi)
        rw [List.getD_cons_succ, this]
        omega
    · have hr : ∀ b ∈ r, ¬ b ≤ t := fun b hb => by have := hp.1 b hb; omega
      have e : ((a :: r).filter fun x => decide (x ≤ t)) = [] := by
        rw [List.filter_cons_of_neg (by simpa using ha)]
        exact List.filter_eq_nil_iff.mpr fun b hb => by simpa using hr b hb
      rw [e]
      constructor
      · intro h
        cases i with
        | zero => exact absurd h ha
        | succ j =>
          rw [List.getD_cons_succ] at h
          have hj : j < r.length := by simpa using hi
          rw [List.getD_eq_getElem?_getD, List.getElem?_eq_getElem hj] at h
          exact absurd h (hr _ (List.getElem_mem hj))
      · intro h
        exact absurd h (by simp)
theorem LeL.cnt {t : Int} : ∀ {as bs : List Int}, LeL as bs → (bs.filter fun a => decide (a ≤ t)).length ≤ (as.filter fun a => decide (a ≤ t)).length
  | [], [], _ => Nat.le_refl _
  | a :: as, b :: bs, h => by
    have ih := LeL.cnt (t := t) h.2
    have h1 := h.1
    by_cases hb : b ≤ t
    · rw [List.filter_cons_of_pos (by exact decide_eq_true hb), List.filter_cons_of_pos (by exact decide_eq_true (by omega))]
      simpa using ih
    · rw [List.filter_cons_of_neg (by simpa using hb)]
      by_cases ha : a ≤ t
      · rw [List.filter_cons_of_pos (by exact decide_eq_true ha), List.length_cons]
        omega
      · rw [List.filter_cons_of_neg (by simpa using ha)]
        exact ih
  | [], b :: bs, h => h.elim
  | a :: as, [], h => h.elim
theorem LeL.sort {as bs : List Int} (h : LeL as bs) : LeL (sortI as) (sortI bs) := by
  refine LeL.of_at (by rw [sortI_len, sortI_len, h.length]) fun i hi => ?_
  have hib : i < (sortI bs).length := by rw [sortI_len, ← h.length, ← sortI_len]; exact hi
  refine (cnt_sorted (sortI_sorted as) hi).mpr ?_
  have h1 := (cnt_sorted (t := (sortI bs).getD i 0) (sortI_sorted bs) hib).mp (Int.le_refl _)
  have h2 := ((sortI_perm bs).filter fun a => decide (a ≤ (sortI bs).getD i 0)).length_eq
  have h3 := ((sortI_perm as).filter fun a => decide (a ≤ (sortI bs).getD i 0)).length_eq
  have h4 := LeL.cnt (t := (sortI bs).getD i 0) h
  omega
theorem LeL.up {t : Int} : ∀ {ns as bs : List Int}, (∀ w ∈ ns, 0 ≤ w) → LeL as bs → wUp ns bs t ≤ wUp ns as t
  | ns, [], [], _, _ => Int.le_refl _
  | [], a :: as, b :: bs, _, _ => by unfold wUp; simp
  | n :: ns, a :: as, b :: bs, hn, h => by
    have ih := LeL.up (t := t) (ns := ns) (fun w hw => hn w (List.mem_cons_of_mem _ hw)) h.2
    have h1 := h.1
    have h0 := hn n List.mem_cons_self
    have step : ∀ (c : Int) (cs : List Int), wUp (n :: ns) (c :: cs) t = (if c ≤ t then n else 0) + wUp ns cs t := fun c cs => by
      unfold wUp
      rw [List.zip_cons_cons]
      by_cases hc : c ≤ t
      · rw [List.filter_cons_of_pos (by exact decide_eq_true hc), if_pos hc, List.map_cons, List.sum_cons]
      · rw [List.filter_cons_of_neg (by simpa using hc), if_neg hc, Int.zero_add]
    rw [step, step]
    by_cases hb : b ≤ t
    · rw [if_pos hb, if_pos (show a ≤ t by omega)]
      omega
    · rw [if_neg hb]
      split <;> omega
  | _, [], b :: bs, _, h => h.elim
  | _, a :: as, [], _, h => h.elim
theorem wUp_attained {ns as : List Int} {t : Int} (hns : ∀ w ∈ ns, 0 ≤ w) (h : 0 < wUp ns as t) : ∃ u ∈ as, u ≤ t ∧ wUp ns as t = wUp ns as u := by
  have e : wLo ns as (t + 1) = wUp ns as t := by
    unfold wLo wUp
    congr 2
    exact List.filter_congr fun q _ => decide_eq_decide.mpr (by omega)
  rcases wLo_up (ns := ns) (as := as) (m := t + 1) hns with h0 | ⟨u, hu, hut, he⟩
  · omega
  · exact ⟨u, hu, by omega, by omega⟩
theorem node_mono {k : RK} {ns as bs : List Int} (hk : k ≠ .leaf) (hn : numOk k ns as.length) (h : LeL as bs) : nodeF k ns as ≤ nodeF k ns bs := by
  have hl := h.length
  cases k with
  | leaf => exact absurd rfl hk
  | rank =>
    show (([(sortI as).getD (ns.headD 0).toNat 0] : List Int).sum) / ((1 : Nat) : Int) ≤ (([(sortI bs).getD (ns.headD 0).toNat 0] : List Int).sum) / ((1 : Nat) : Int)
    have := LeL.at_ (ns.headD 0).toNat h.sort
    simpa using this
  | trim =>
    have h2 := ((h.sort).drop (ns.headD 0).toNat).take (as.length - (ns.headD 0).toNat - (ns.headD 0).toNat)
    have e : cntF .trim ns bs = ((sortI bs).drop (ns.headD 0).toNat).take (as.length - (ns.headD 0).toNat - (ns.headD 0).toNat) := by
      show ((sortI bs).drop (ns.headD 0).toNat).take (bs.length - (ns.headD 0).toNat - (ns.headD 0).toNat) = _
      rw [hl]
    unfold nodeF
    rw [e]
    have hlen := h2.length
    show (((sortI as).drop (ns.headD 0).toNat).take (as.length - (ns.headD 0).toNat - (ns.headD 0).toNat)).sum / _ ≤ _
    show _ / ((((sortI as).drop (ns.headD 0).toNat).take (as.length - (ns.headD 0).toNat - (ns.headD 0).toNat)).length : Int) ≤ _
    rw [← hlen]
    obtain ⟨c, hc, c0, c1⟩ := hn
    refine Int.ediv_le_ediv ?_ h2.sum
    rw [List.length_take, List.length_drop, sortI_len, hc]
    show (0 : Int) < ((min (as.length - c.toNat - c.toNat) (as.length - c.toNat) : Nat) : Int)
    omega
  | weigh =>
    obtain ⟨n1, n2, n3⟩ := hn
    have h0 : 0 < as.length := by have := sum_pos_len n3; omega
    obtain ⟨ma, mu, ml⟩ := wg_right (ns := ns) (as := as) n1 h0 n2 n3 rfl
    obtain ⟨ba, bu, bl⟩ := wg_right (ns := ns) (as := bs) (n1.trans hl) (by omega) n2 n3 rfl
    show (([minL (as.filter fun a => decide (ns.sum ≤ 2 * wUp ns as a))] : List Int).sum) / ((1 : Nat) : Int) ≤ (([minL (bs.filter fun a => decide (ns.sum ≤ 2 * wUp ns bs a))] : List Int).sum) / ((1 : Nat) : Int)
    generalize minL (bs.filter fun a => decide (ns.sum ≤ 2 * wUp ns bs a)) = t at ba bu bl ⊢
    have h5 := LeL.up (t := t) n2 h
    obtain ⟨u, hu, hut, he⟩ := wUp_attained (ns := ns) (as := as) (t := t) n2 (by omega)
    have h6 : minL (as.filter fun a => decide (ns.sum ≤ 2 * wUp ns as a)) ≤ u := minL_le (List.mem_filter.mpr ⟨hu, decide_eq_true (by omega)⟩)
    have : minL (as.filter fun a => decide (ns.sum ≤ 2 * wUp ns as a)) ≤ t := by omega
    simpa using this
/-! ### all moved alike -/
theorem sort_shift (c : Int) (as : List Int) : sortI (as.map (· + c)) = (sortI as).map (· + c) :=
  (sortI_uniq ((sortI_perm as).map _) (List.pairwise_map.mpr ((sortI_sorted as).imp fun h => by show _ + c ≤ _ + c; omega))).symm
theorem sum_shift (c : Int) : ∀ as : List Int, (as.map (· + c)).sum = as.sum + c * as.length
  | [] => by simp
  | a :: r => by
    rw [List.map_cons, List.sum_cons, List.sum_cons, sum_shift c r, List.length_cons, Int.natCast_add, Int.mul_add]
    show a + c + (r.sum + c * r.length) = a + r.sum + (c * r.length + c * 1)
    omega
theorem up_shift (c t : Int) : ∀ (ns as : List Int), wUp ns (as.map (· + c)) (t + c) = wUp ns as t
  | _, [] => by unfold wUp; rfl
  | [], a :: r => by unfold wUp; simp
  | n :: ns, a :: r => by
    have ih := up_shift c t ns r
    unfold wUp at ih ⊢
    rw [List.map_cons, List.zip_cons_cons, List.zip_cons_cons]
    by_cases h : a ≤ t
    · rw [List.filter_cons_of_pos (by exact decide_eq_true (by show a + c ≤ t + c; omega)), List.filter_cons_of_pos (by exact decide_eq_true h), List.map_cons, List.map_cons, List.sum_cons, List.sum_cons, ih]
    · rw [List.filter_cons_of_neg (by simp; omega), List.filter_cons_of_neg (by simpa using h), ih]
theorem node_shift {k : RK} {ns as : List Int} (c : Int) (hk : k ≠ .leaf) (hn : numOk k ns as.length) : nodeF k ns (as.map (· + c)) = nodeF k ns as + c := by
  cases k with
  | leaf => exact absurd rfl hk
  | rank =>
    obtain ⟨p, rfl, p0, p1⟩ := hn
    show (([(sortI (as.map (· + c))).getD p.toNat 0] : List Int).sum) / ((1 : Nat) : Int) = (([(sortI as).getD p.toNat 0] : List Int).sum) / ((1 : Nat) : Int) + c
    have hp : p.toNat < (sortI as).length := by rw [sortI_len]; omega
    rw [sort_shift, List.getD_eq_getElem?_getD, List.getElem?_map, List.getElem?_eq_getElem hp, List.getD_eq_getElem?_getD, List.getElem?_eq_getElem hp]
    simp
  | trim =>
    obtain ⟨x, rfl, c0, c1⟩ := hn
    show (((sortI (as.map (· + c))).drop x.toNat).take ((as.map (· + c)).length - x.toNat - x.toNat)).sum / ((((sortI (as.map (· + c))).drop x.toNat).take ((as.map (· + c)).length - x.toNat - x.toNat)).length : Int) = (((sortI as).drop x.toNat).take (as.length - x.toNat - x.toNat)).sum / ((((sortI as).drop x.toNat).take (as.length - x.toNat - x.toNat)).length : Int) + c
    rw [sort_shift, List.length_map, ← List.map_drop, ← List.map_take, List.length_map, sum_shift]
    refine Int.add_mul_ediv_right _ _ ?_
    rw [List.length_take, List.length_drop, sortI_len]
    omega
  | weigh =>
    obtain ⟨n1, n2, n3⟩ := hn
    have h0 : 0 < as.length := by have := sum_pos_len n3; omega
    have hne := wg_some n1 h0 (by omega)
    have key : minL ((as.map (· + c)).filter fun a => decide (ns.sum ≤ 2 * wUp ns (as.map (· + c)) a)) = minL (as.filter fun a => decide (ns.sum ≤ 2 * wUp ns as a)) + c := by
      refine (minL_uniq ?_ ?_).symm
      · have hm := minL_mem (as := as.filter fun a => decide (ns.sum ≤ 2 * wUp ns as a)) (fun e => by rw [e] at hne; exact absurd hne (by decide))
        obtain ⟨h1, h2⟩ := List.mem_filter.mp hm
        refine List.mem_filter.mpr ⟨List.mem_map.mpr ⟨_, h1, rfl⟩, ?_⟩
        rw [up_shift]
        exact h2
      · intro y hy
        obtain ⟨h1, h2⟩ := List.mem_filter.mp hy
        obtain ⟨a, ha, rfl⟩ := List.mem_map.mp h1
        rw [up_shift] at h2
        have := minL_le (as := as.filter fun a => decide (ns.sum ≤ 2 * wUp ns as a)) (List.mem_filter.mpr ⟨ha, h2⟩)
        omega
    show (([minL ((as.map (· + c)).filter fun a => decide (ns.sum ≤ 2 * wUp ns (as.map (· + c)) a))] : List Int).sum) / ((1 : Nat) : Int) = (([minL (as.filter fun a => decide (ns.sum ≤ 2 * wUp ns as a))] : List Int).sum) / ((1 : Nat) : Int) + c
    rw [key]
    simp
/-! ### of whole rules -/
theorem ansF_rec {P : Ru → Prop} (h : ∀ r, (∀ p ∈ r.ps, P p) → P r) : ∀ (d : Nat) (r : Ru), sizeOf r ≤ d → P r := by
  intro d
  induction d with
  | zero =>
    intro r hr
    obtain ⟨k, lb, ns, ps, rk⟩ := r
    simp at hr
  | succ d ih =>
    intro r hr
    refine h r fun p hp => ih p ?_
    obtain ⟨k, lb, ns, ps, rk⟩ := r
    have h1 := List.sizeOf_lt_of_mem (show p ∈ ps from hp)
    simp at hr
    omega
theorem ru_ind {P : Ru → Prop} (h : ∀ r, (∀ p ∈ r.ps, P p) → P r) (r : Ru) : P r := ansF_rec h _ r (Nat.le_refl _)
theorem names_part {r p : Ru} {n : Str} (hk : r.k ≠ .leaf) (hp : p ∈ r.ps) (hn : n ∈ namesF p) : n ∈ namesF r := by
  rw [namesF_node hk]
  exact List.mem_flatMap.mpr ⟨p, hp, hn⟩
theorem lel_map {f g : Ru → Int} : ∀ {ps : List Ru}, (∀ p ∈ ps, f p ≤ g p) → LeL (ps.map f) (ps.map g)
  | [], _ => trivial
  | p :: ps, h => ⟨h p List.mem_cons_self, lel_map fun q hq => h q (List.mem_cons_of_mem _ hq)⟩
theorem ans_mono {rd rd' : Str → Int} (r : Ru) : okR r → (∀ n ∈ namesF r, rd n ≤ rd' n) → ansF rd r ≤ ansF rd' r := by
  refine ru_ind (P := fun r => okR r → (∀ n ∈ namesF r, rd n ≤ rd' n) → ansF rd r ≤ ansF rd' r) (fun r ih ho hn => ?_) r
  by_cases hk : r.k = .leaf
  · rw [ansF_leaf _ hk, ansF_leaf _ hk]
    exact hn _ (by rw [namesF_leaf hk]; exact List.mem_singleton.mpr rfl)
  · obtain ⟨h1, h2, h3⟩ := okR_node.mp ho
    rw [ansF_node _ hk, ansF_node _ hk]
    exact node_mono hk (by rw [List.length_map]; exact h1) (lel_map fun p hp => ih p hp (okRL_mem h3 hp) fun n hm => hn n (names_part hk hp hm))
theorem ans_shift {rd rd' : Str → Int} (c : Int) (r : Ru) : okR r → (∀ n ∈ namesF r, rd' n = rd n + c) → ansF rd' r = ansF rd r + c := by
  refine ru_ind (P := fun r => okR r → (∀ n ∈ namesF r, rd' n = rd n + c) → ansF rd' r = ansF rd r + c) (fun r ih ho hn => ?_) r
  by_cases hk : r.k = .leaf
  · rw [ansF_leaf _ hk, ansF_leaf _ hk]
    exact hn _ (by rw [namesF_leaf hk]; exact List.mem_singleton.mpr rfl)
  · obtain ⟨h1, h2, h3⟩ := okR_node.mp ho
    rw [ansF_node _ hk, ansF_node _ hk]
    have e : r.ps.map (ansF rd') = (r.ps.map (ansF rd)).map (· + c) := by
      rw [List.map_map]
      exact List.map_congr_left fun p hp => ih p hp (okRL_mem h3 hp) fun n hm => hn n (names_part hk hp hm)
    rw [e]
    exact node_shift c hk (by rw [List.length_map]; exact h1)
/-- readings that are near give answers that are near -/
theorem ans_near {rd rd' : Str → Int} {c : Int} {r : Ru} (ho : okR r) (h : ∀ n ∈ namesF r, rd n - c ≤ rd' n ∧ rd' n ≤ rd n + c) : ansF rd r - c ≤ ansF rd' r ∧ ansF rd' r ≤ ansF rd r + c := by
  constructor
  · have := ans_mono (rd := fun n => rd n + -c) (rd' := rd') r ho fun n hn => by have := (h n hn).1; show rd n + -c ≤ _; omega
    rw [ans_shift (rd := rd) (-c) r ho fun n _ => rfl] at this
    omega
  · have := ans_mono (rd := rd') (rd' := fun n => rd n + c) r ho fun n hn => (h n hn).2
    rw [ans_shift (rd := rd) c r ho fun n _ => rfl] at this
    exact this
end G
set_option Elab.async false
set_option linter.all false
set_option maxRecDepth 100000
set_option maxHeartbeats 2000000
namespace G
open PySem PySem.Spec PyProof.Rows L2 StX
/-! ### pairs of a number and a number or a list -/
inductive Rw where
  | n (a b : Int)
  | l (a : Int) (bs : List Int)
def Rw.a : Rw → Int
  | .n a _ => a
  | .l a _ => a
def rwX (W : Wc) (H : Hp) (x : V) : Rw → Prop
  | .n _ b => x = .int b
  | .l _ bs => ∃ q, x = .ref q ∧ Lq W H q (bs.map V.int)
instance : Rep Rw := ⟨fun W H v r => ∃ p x, v = .ref p ∧ Tq W H p [.int r.a, x] ∧ rwX W H x r, fun {W H H' v r} e h => by
    obtain ⟨p, x, hv, h1, h2⟩ := h
    refine ⟨p, x, hv, h1.mono e, ?_⟩
    cases r with
    | n a b => exact h2
    | l a bs => obtain ⟨q, h3, h4⟩ := h2; exact ⟨q, h3, h4.mono e⟩, fun {W H v r} D n h => by
    obtain ⟨p, x, hv, h1, h2⟩ := h
    refine ⟨p, x, hv, h1.grow D n, ?_⟩
    cases r with
    | n a b => exact h2
    | l a bs => obtain ⟨q, h3, h4⟩ := h2; exact ⟨q, h3, h4.grow D n⟩, fun {W H v r} D h => by
    obtain ⟨p, x, hv, h1, h2⟩ := h
    refine ⟨p, x, hv, h1.shrink D, ?_⟩
    cases r with
    | n a b => exact h2
    | l a bs => obtain ⟨q, h3, h4⟩ := h2; exact ⟨q, h3, h4.shrink D⟩⟩
section
variable {W : Wd} {Γ : Gam} {te ta tb : TE} {K : PySem.W.Frag}
theorem ev_row0 {k : Int → Prop} (hK : W.B.K = K) (h : EvK W te Γ fun r : Rw => k r.a) : EvK W (tOp (rIxT K) te (tC (.int 0))) Γ k := by
  subst hK
  refine fun σ H Q E c => h σ H _ E fun v H1 r e1 d q => ?_
  obtain ⟨p, x, hv, s, hx⟩ := d
  exact ⟨p, _, 0, _, hv, rfl, s.sq, rfl, c _ H1 _ e1 rfl q⟩
theorem ev_row1n {k : Int → Prop} (hK : W.B.K = K) (h : EvK W te Γ fun r : Rw => ∃ a b, r = .n a b ∧ k b) : EvK W (tOp (rIxT K) te (tC (.int 1))) Γ k := by
  subst hK
  refine fun σ H Q E c => h σ H _ E fun v H1 r e1 d q => ?_
  obtain ⟨a, b, rfl, q⟩ := q
  obtain ⟨p, x, hv, s, hx⟩ := d
  exact ⟨p, _, 1, _, hv, rfl, s.sq, rfl, c _ H1 _ e1 hx q⟩
theorem ev_row1l {k : List Int → Prop} (hK : W.B.K = K) (h : EvK W te Γ fun r : Rw => ∃ a bs, r = .l a bs ∧ k bs) : EvK W (tOp (rIxT K) te (tC (.int 1))) Γ k := by
  subst hK
  refine fun σ H Q E c => h σ H _ E fun v H1 r e1 d q => ?_
  obtain ⟨a, bs, rfl, q⟩ := q
  obtain ⟨p, x, hv, s, y, h1, h2⟩ := d
  exact ⟨p, _, 1, _, hv, rfl, s.sq, rfl, c _ H1 _ e1 ⟨y, _, h1, h2, Dl.of_ints _⟩ q⟩
theorem ev_rowN {k : Rw → Prop} (h : EvK W ta Γ fun a : Int => EvK W tb Γ fun b : Int => k (.n a b)) : EvK W (tTup (tCons ta (tCons tb tNil))) Γ k := fun σ H Q E c =>
  ev_tup2 (k := fun t : Int × Int => k (.n t.1 t.2)) h σ H Q E fun v H1 t e d q => c v H1 (.n t.1 t.2) e (by
    obtain ⟨p, x, y, hv, s, d1, d2⟩ := d
    have d1 : x = .int t.1 := d1
    rw [d1] at s
    exact ⟨p, y, hv, s, d2⟩) q
theorem ev_rowL {k : Rw → Prop} (h : EvK W ta Γ fun a : Int => EvK W tb Γ fun b : List Int => k (.l a b)) : EvK W (tTup (tCons ta (tCons tb tNil))) Γ k := fun σ H Q E c =>
  ev_tup2 (k := fun t : Int × List Int => k (.l t.1 t.2)) h σ H Q E fun v H1 t e d q => c v H1 (.l t.1 t.2) e (by
    obtain ⟨p, x, y, hv, s, d1, q, vs, hy, hl, hd⟩ := d
    have d1 : x = .int t.1 := d1
    have hvs : vs = t.2.map V.int := hd.ints
    rw [d1] at s
    exact ⟨p, y, hv, s, q, hy, hvs ▸ hl⟩) q
/-- xs[:-1] -/
theorem ev_butlast {α : Type} {rα : Rep α} {k : List α → Prop} (hK : W.B.K = K) (h : EvK W te Γ fun as : List α => EvK W tb Γ fun n : Int => n = -1 ∧ k as.dropLast) : EvK W (tSl (rSlL K) te tNoPart (tPart tb)) Γ k := by
  subst hK
  refine fun σ H Q G c => h σ H _ G fun v H1 as e1 d1 h1 => ?_
  refine h1 σ H1 _ (G.ext e1) fun u H2 n e2 d2 ⟨hn, z⟩ => ?_
  subst hn
  obtain ⟨p, vs, hv, hp, hd⟩ := Rep.mono (W := W.toWc) (a := as) e2.keep d1
  refine ⟨-1, d2, p, vs, hv, hp.sq, fun q hq => ?_⟩
  have e : cutV vs none (some (-1)) = vs.dropLast := by
    unfold cutV
    rw [show HT.sIx vs.length 0 none = 0 from rfl, List.drop_zero, Nat.sub_zero, List.dropLast_eq_take]
    congr 1
    show (if (-1 : Int) < 0 then ((-1 : Int) + vs.length).toNat else min (-1 : Int).toNat vs.length) = _
    rw [if_pos (by decide)]
    omega
  rw [e]
  have e4 := Ext.new (o := .lst vs.dropLast) e2.ok hq
  refine c (.ref q) _ _ ((e1.trans e2).trans e4) ⟨q, _, rfl, Lq.new (fresh_mu e2.ok hq) upd_same, ?_⟩ z
  have h0 := (dl_take (vs.length - 1) hd).imp fun _ _ d => Rep.mono e4.keep d
  have e3 : as.take (vs.length - 1) = as.dropLast := by rw [hd.length, List.dropLast_eq_take]
  rw [← List.dropLast_eq_take, e3] at h0
  exact h0
end
/-! ### how long the text of a word is -/
theorem repr_small {w : Str} (h : ∀ c ∈ w.cps.toList, c < 16 ^ 8) (hl : w.length ≤ 200) : (reprText w).length ≤ 3000 := by
  have := StrLaws.reprText_len w h
  omega
theorem repr_good {w : Str} (h : GoodW w) : (reprText w).length ≤ 3000 ∧ w.length ≤ 3000 := by
  obtain ⟨h1, h2, h3, _⟩ := h
  exact ⟨repr_small (fun c hc => Nat.lt_of_le_of_lt (h3 c hc).2 (by decide)) (by omega), by omega⟩
end G
namespace G
open PySem PySem.Spec PyProof.Rows L2 StX
theorem ev_xfS {W : Wd} {Γ : Gam} {te : TE} {C a : Addr} {cls : Value} {d : Option Addr} {f : Str} {k : Str → Prop} (hC : cls = .ref C) (h : EvK W te Γ fun e : Er => (e.a = a ∧ e.d = d) ∧ ∃ z : Str, e.n.fs.lookup f = some (.s z) ∧ k z) : EvK W (tXf a cls d C f te) Γ k := by
  refine fun σ H Q E c => h σ H _ E fun v H1 e e1 d1 ⟨⟨ha, hd⟩, z, hf, q⟩ => ?_
  obtain ⟨hv, xd⟩ := d1
  subst ha hd
  rcases xd with ⟨h0, _⟩ | ⟨dd, vs, h1, _, h3, h4⟩
  · rw [h0] at hf
    cases hf
  · obtain ⟨u, hu, du⟩ := h4.at hf
    exact ⟨hv, hC, dd, vs, u, h1, h3, hu, c u H1 z e1 du q⟩
end G
namespace G
open PySem PySem.Spec PyProof.Rows L2 StX
section
variable {X : Cx} {CX : CXT} {k : Nat} {g C : Addr} {mc : Value} {sp : Sp} {E : L2.St → XK} {x m : Str} {pos apos pp : Pos}
/-- C.m(), a class method without arguments -/
theorem pe_cmethZ0 {pl : Sem Bool} (r : ClX.CRead X.K C mc) (c : ∃ p, ClX.CMet X.K C mc m p g) (F : FnR X.prog X.w X.K X.mg X.base CX k g sp) (hr : Room k X.A) (hx : ∀ σ, PassesAt CX X σ (E σ)) (hm : X.mg x = some (.ref C)) (hg : Gl X x := by rfl) (hdb : (x == ("__debug__" : Str)) = false := by decide)
    (ht : eval (.Call (.Attribute (.Name x pp) m apos) [] [] pos) X.env = (do
      let ov ← eval (.Name x pp) X.env
      standAt apos.atName
      let (f, first) ← holding [ov] (getMethod ov m pl)
      callWith pos f first (backTo pos (starEach [] X.env)) (backToKw pos (keywordEach [] X.env))) := by rfl) :
    PE X (.Call (.Attribute (.Name x pp) m apos) [] [] pos) (tCMethZ C sp E tNil) := by
  obtain ⟨p, c⟩ := c
  refine ⟨fun pins s σ H Q I h => ?_⟩
  refine PySem.W.methodCall_KW (pl := pl) (ld_glob I hg hm ?_ hdb) ht
  refine ClX.getmethcm_ok (I.tok _) r c fun s2 I2 => ?_
  exact PySem.W.callWith_of rfl (PySem.W.keeps_M c.fi) (evalArgs_nil3 ⟨⟨ClX.pin_at I2, I2.kIn⟩, run_cmZ F hr (hx σ) I2 .nil h⟩)
end
end G
namespace G
open PySem PySem.Spec PyProof.Rows L2 StX
/-- a slot may be forgotten -/
theorem GOk.none_at {W : Wd} {H : Hp} {σ : L2.St} {Γ : Gam} (G : GOk W H σ Γ) (i : Nat) : GOk W H σ (Γ.set i none) := by
  refine ⟨G.ok, G.wish, fun j u hj => ?_, by rw [List.length_set]; exact G.len⟩
  by_cases e : i = j
  · subst e
    rw [List.getElem?_set] at hj
    split at hj
    · split at hj <;> cases hj
    · exact G.at_ i u hj
  · rw [List.getElem?_set_ne e] at hj
    exact G.at_ j u hj
end G
namespace G
open PySem PySem.Spec PyProof.Rows L2 StX
theorem good_ok {w : Str} (h : GoodW w) : PyData.strOk w = true := by
  unfold PyData.strOk
  rw [Array.all_eq_true']
  intro c hc
  have := (h.2.2.1 c (by simpa using hc)).2
  exact decide_eq_true (Nat.lt_of_le_of_lt this (by decide))
theorem ev_ixLi3a {α β γ : Type} {rα : Rep α} {rβ : Rep β} {rγ : Rep γ} {W : Wd} {Γ : Gam} {te : TE} {K : PySem.W.Frag} {k : α → Prop} (hK : W.B.K = K) (h : EvK W te Γ fun t : Li3 α β γ => k t.a) : EvK W (tOp (rIxL K) te (tC (.int 0))) Γ k := by
  subst hK
  refine fun σ H Q E c => h σ H _ E fun v H1 t e1 d z => ?_
  obtain ⟨p, x, y, u, hv, s, d1, d2, d3⟩ := d
  exact ⟨p, _, 0, x, hv, rfl, s.sq, rfl, c x H1 _ e1 d1 z⟩
end G
set_option Elab.async false
set_option linter.all false
set_option maxRecDepth 100000
set_option maxHeartbeats 4000000
namespace Lw
open PySem PySem.Spec PyProof.Rows L2 StX G
def top (i : Nat) : Stmt := PySem.Challenge.pw_gaugemiss_k23_rule_refusals.main.body.getD i (.Pass ⟨0, 0, 0, 0⟩)
abbrev s_take : Stmt := top 14
abbrev s_box : Stmt := top 13
abbrev s_word : Stmt := top 15
abbrev s_words : Stmt := top 16
abbrev s_DuplicateGauge_init : Stmt := inClass (top 3) 0
abbrev s_BadRule_init : Stmt := inClass (top 5) 0
abbrev s_Leaf_names : Stmt := inClass (top 8) 1
abbrev s_Rule_names : Stmt := inClass (top 7) 1
abbrev s_Rule_init : Stmt := inClass (top 7) 0
abbrev s_Leaf_init : Stmt := inClass (top 8) 0
abbrev s_Rank_init : Stmt := inClass (top 9) 0
abbrev s_Rank_of : Stmt := inClass (top 9) 1
abbrev s_Trim_init : Stmt := inClass (top 10) 0
abbrev s_Trim_of : Stmt := inClass (top 10) 1
abbrev s_Weigh_init : Stmt := inClass (top 11) 0
abbrev s_Weigh_of : Stmt := inClass (top 11) 1
abbrev s_Rank_least : Stmt := inClass (top 9) 2
abbrev s_Rank_greatest : Stmt := inClass (top 9) 3
abbrev s_Rank_median : Stmt := inClass (top 9) 4
abbrev s_made : Stmt := top 17
abbrev s_bare : Stmt := top 18
abbrev s_nested : Stmt := top 19
abbrev s_law : Stmt := top 20
theorem sc_take : FnScope ["_law_box_here", "_law_many", "_law_cells", "_law_digit", "_law_cell"] ["_law_box_here", "_law_many"] (defScope s_take) := ⟨rfl, rfl, rfl, by decide +kernel, rfl, by decide +kernel, by decide +kernel⟩
theorem sc_box : FnScope ["_law_script", "_law_salt", "_law_cell"] ["_law_script", "_law_salt"] (defScope s_box) := ⟨rfl, rfl, rfl, by decide +kernel, rfl, by decide +kernel, by decide +kernel⟩
theorem sc_word : FnScope ["_law_number", "_law_many", "_law_back", "_law_word_here", "_law_turn"] ["_law_number", "_law_many", "_law_back"] (defScope s_word) := ⟨rfl, rfl, rfl, by decide +kernel, rfl, by decide +kernel, by decide +kernel⟩
theorem sc_words : FnScope ["_law_box_here", "_law_many", "_law_words_here", "_law_back", "_law_turn", "_law_wide", "_law_number", "_law_word_here", "_law_again"] ["_law_box_here", "_law_many"] (defScope s_words) := ⟨rfl, rfl, rfl, by decide +kernel, rfl, by decide +kernel, by decide +kernel⟩
theorem sc_DuplicateGauge_init : FnScope ["self", "name"] ["self", "name"] (defScope s_DuplicateGauge_init) := ⟨rfl, rfl, rfl, by decide +kernel, rfl, by decide +kernel, by decide +kernel⟩
theorem sc_BadRule_init : FnScope ["self", "kind"] ["self", "kind"] (defScope s_BadRule_init) := ⟨rfl, rfl, rfl, by decide +kernel, rfl, by decide +kernel, by decide +kernel⟩
theorem sc_Leaf_names : FnScope ["self"] ["self"] (defScope s_Leaf_names) := ⟨rfl, rfl, rfl, by decide +kernel, rfl, by decide +kernel, by decide +kernel⟩
theorem sc_Rule_names : FnScope ["self", "part", "name"] ["self"] (defScope s_Rule_names) := ⟨rfl, rfl, rfl, by decide +kernel, rfl, by decide +kernel, by decide +kernel⟩
theorem sc_Rule_init : FnScope ["self", "label", "numbers", "parts", "part", "names", "at", "name"] ["self", "label", "numbers", "parts"] (defScope s_Rule_init) := ⟨rfl, rfl, rfl, by decide +kernel, rfl, by decide +kernel, by decide +kernel⟩
theorem sc_Leaf_init : FnScope ["self", "name"] ["self", "name"] (defScope s_Leaf_init) := ⟨rfl, rfl, rfl, by decide +kernel, rfl, by decide +kernel, by decide +kernel⟩
theorem sc_Rank_init : FnScope ["self", "place", "parts"] ["self", "place", "parts"] (defScope s_Rank_init) := ⟨rfl, rfl, rfl, by decide +kernel, rfl, by decide +kernel, by decide +kernel⟩
theorem sc_Rank_of : FnScope ["cls", "place", "parts"] ["cls", "place", "parts"] (defScope s_Rank_of) := ⟨rfl, rfl, rfl, by decide +kernel, rfl, by decide +kernel, by decide +kernel⟩
theorem sc_Trim_init : FnScope ["self", "cut", "parts"] ["self", "cut", "parts"] (defScope s_Trim_init) := ⟨rfl, rfl, rfl, by decide +kernel, rfl, by decide +kernel, by decide +kernel⟩
theorem sc_Trim_of : FnScope ["cls", "cut", "parts"] ["cls", "cut", "parts"] (defScope s_Trim_of) := ⟨rfl, rfl, rfl, by decide +kernel, rfl, by decide +kernel, by decide +kernel⟩
theorem sc_Weigh_init : FnScope ["self", "weights", "parts", "weight"] ["self", "weights", "parts"] (defScope s_Weigh_init) := ⟨rfl, rfl, rfl, by decide +kernel, rfl, by decide +kernel, by decide +kernel⟩
theorem sc_Weigh_of : FnScope ["cls", "weights", "parts"] ["cls", "weights", "parts"] (defScope s_Weigh_of) := ⟨rfl, rfl, rfl, by decide +kernel, rfl, by decide +kernel, by decide +kernel⟩
theorem sc_Rank_least : FnScope ["cls", "parts"] ["cls", "parts"] (defScope s_Rank_least) := ⟨rfl, rfl, rfl, by decide +kernel, rfl, by decide +kernel, by decide +kernel⟩
theorem sc_Rank_greatest : FnScope ["cls", "parts"] ["cls", "parts"] (defScope s_Rank_greatest) := ⟨rfl, rfl, rfl, by decide +kernel, rfl, by decide +kernel, by decide +kernel⟩
theorem sc_Rank_median : FnScope ["cls", "parts"] ["cls", "parts"] (defScope s_Rank_median) := ⟨rfl, rfl, rfl, by decide +kernel, rfl, by decide +kernel, by decide +kernel⟩
theorem sc_made : FnScope ["_law_sort", "_law_numbers", "_law_words_here", "_law_leaves", "_law_word_here", "_law_rule", "e"] ["_law_sort", "_law_numbers", "_law_words_here"] (defScope s_made) := ⟨rfl, rfl, rfl, by decide +kernel, rfl, by decide +kernel, by decide +kernel⟩
theorem sc_bare : FnScope ["_law_way", "_law_word_here", "e"] ["_law_way", "_law_word_here"] (defScope s_bare) := ⟨rfl, rfl, rfl, by decide +kernel, rfl, by decide +kernel, by decide +kernel⟩
theorem sc_nested : FnScope ["_law_words_here", "_law_way", "_law_last", "_law_front", "_law_word_here", "e"] ["_law_words_here", "_law_way"] (defScope s_nested) := ⟨rfl, rfl, rfl, by decide +kernel, rfl, by decide +kernel, by decide +kernel⟩
theorem sc_law : FnScope ["_law_script", "_law_box_here", "_law_words_here", "_law_many", "_law_bad", "_law_ones", "_law_word_here", "_law_less", "_law_fair", "_law_twice", "_law_at", "_law_double", "_law_nested_here", "_law_row", "_law_due", "_law_way"] ["_law_script"] (defScope s_law) := ⟨rfl, rfl, rfl, by decide +kernel, rfl, by decide +kernel, by decide +kernel⟩
structure Ad where
  c_GaugeError : Addr
  c_BadGauge : Addr
  c_DuplicateGauge : Addr
  c_MissingReading : Addr
  c_BadRule : Addr
  c_Rule : Addr
  c_Leaf : Addr
  c_Rank : Addr
  c_Trim : Addr
  c_Weigh : Addr
  f_take : Addr
  f_box : Addr
  f_word : Addr
  f_words : Addr
  f_DuplicateGauge_init : Addr
  f_BadRule_init : Addr
  f_Leaf_names : Addr
  f_Rule_names : Addr
  f_Rule_init : Addr
  f_Leaf_init : Addr
  f_Rank_init : Addr
  f_Rank_of : Addr
  f_Trim_init : Addr
  f_Trim_of : Addr
  f_Weigh_init : Addr
  f_Weigh_of : Addr
  f_Rank_least : Addr
  f_Rank_greatest : Addr
  f_Rank_median : Addr
  f_made : Addr
  f_bare : Addr
  f_nested : Addr
  f_law : Addr
def bs (K : PySem.W.Frag) (A : Ad) : Bs := ⟨K, fun
  | .GaugeError => A.c_GaugeError
  | .BadGauge => A.c_BadGauge
  | .DuplicateGauge => A.c_DuplicateGauge
  | .MissingReading => A.c_MissingReading
  | .BadRule => A.c_BadRule
  | .Rule => A.c_Rule
  | .Leaf => A.c_Leaf
  | .Rank => A.c_Rank
  | .Trim => A.c_Trim
  | .Weigh => A.c_Weigh
  | _ => 0⟩
structure Txt (K : PySem.W.Frag) (mg : Str → Option Value) (A : Ad) : Prop where
  g_take : DefAt K mg "_law_take" s_take ["_law_box_here", "_law_many"] A.f_take
  g_box : DefAt K mg "_law_box" s_box ["_law_script", "_law_salt"] A.f_box
  g_word : DefAt K mg "_law_word" s_word ["_law_number", "_law_many", "_law_back"] A.f_word
  g_words : DefAt K mg "_law_words" s_words ["_law_box_here", "_law_many"] A.f_words
  d_DuplicateGauge_init : DefM K "__init__" "DuplicateGauge.__init__" s_DuplicateGauge_init ["self", "name"] A.f_DuplicateGauge_init
  xi_DuplicateGauge : PySem.W.findIn K (.ref A.c_DuplicateGauge) "__init__" = some (some (.ref A.f_DuplicateGauge_init))
  xt_DuplicateGauge : PySem.W.typeIn K (.ref A.f_DuplicateGauge_init) = some (.type "function")
  d_BadRule_init : DefM K "__init__" "BadRule.__init__" s_BadRule_init ["self", "kind"] A.f_BadRule_init
  xi_BadRule : PySem.W.findIn K (.ref A.c_BadRule) "__init__" = some (some (.ref A.f_BadRule_init))
  xt_BadRule : PySem.W.typeIn K (.ref A.f_BadRule_init) = some (.type "function")
  d_Leaf_names : DefM K "names" "Leaf.names" s_Leaf_names ["self"] A.f_Leaf_names
  m_Leaf_names : Meth K A.c_Leaf "names" A.f_Leaf_names
  d_Rule_names : DefM K "names" "Rule.names" s_Rule_names ["self"] A.f_Rule_names
  m_Rule_names : Meth K A.c_Rule "names" A.f_Rule_names
  d_Rule_init : DefM K "__init__" "Rule.__init__" s_Rule_init ["self", "label", "numbers", "parts"] A.f_Rule_init
  m_Rule : Mk K A.c_Rule A.f_Rule_init
  d_Leaf_init : DefM K "__init__" "Leaf.__init__" s_Leaf_init ["self", "name"] A.f_Leaf_init
  m_Leaf : Mk K A.c_Leaf A.f_Leaf_init
  d_Rank_init : DefS K "__init__" "Rank.__init__" s_Rank_init ["self", "place"] "parts" A.f_Rank_init
  m_Rank : Mk K A.c_Rank A.f_Rank_init
  r_Rank : ClX.CRead K A.c_Rank (.type "type")
  q_Rank_of : ∃ p, ClX.CMet K A.c_Rank (.type "type") "of" p A.f_Rank_of
  d_Rank_of : DefM K "of" "Rank.of" s_Rank_of ["cls", "place", "parts"] A.f_Rank_of
  d_Trim_init : DefS K "__init__" "Trim.__init__" s_Trim_init ["self", "cut"] "parts" A.f_Trim_init
  m_Trim : Mk K A.c_Trim A.f_Trim_init
  r_Trim : ClX.CRead K A.c_Trim (.type "type")
  q_Trim_of : ∃ p, ClX.CMet K A.c_Trim (.type "type") "of" p A.f_Trim_of
  d_Trim_of : DefM K "of" "Trim.of" s_Trim_of ["cls", "cut", "parts"] A.f_Trim_of
  d_Weigh_init : DefS K "__init__" "Weigh.__init__" s_Weigh_init ["self", "weights"] "parts" A.f_Weigh_init
  m_Weigh : Mk K A.c_Weigh A.f_Weigh_init
  r_Weigh : ClX.CRead K A.c_Weigh (.type "type")
  q_Weigh_of : ∃ p, ClX.CMet K A.c_Weigh (.type "type") "of" p A.f_Weigh_of
  d_Weigh_of : DefM K "of" "Weigh.of" s_Weigh_of ["cls", "weights", "parts"] A.f_Weigh_of
  q_Rank_least : ∃ p, ClX.CMet K A.c_Rank (.type "type") "least" p A.f_Rank_least
  d_Rank_least : DefS K "least" "Rank.least" s_Rank_least ["cls"] "parts" A.f_Rank_least
  q_Rank_greatest : ∃ p, ClX.CMet K A.c_Rank (.type "type") "greatest" p A.f_Rank_greatest
  d_Rank_greatest : DefS K "greatest" "Rank.greatest" s_Rank_greatest ["cls"] "parts" A.f_Rank_greatest
  q_Rank_median : ∃ p, ClX.CMet K A.c_Rank (.type "type") "median" p A.f_Rank_median
  d_Rank_median : DefS K "median" "Rank.median" s_Rank_median ["cls"] "parts" A.f_Rank_median
  g_made : DefAt K mg "_law_made" s_made ["_law_sort", "_law_numbers", "_law_words_here"] A.f_made
  g_bare : DefAt K mg "_law_bare" s_bare ["_law_way", "_law_word_here"] A.f_bare
  g_nested : DefAt K mg "_law_nested" s_nested ["_law_words_here", "_law_way"] A.f_nested
  g_law : DefAt K mg "law" s_law ["_law_script"] A.f_law
  c_GaugeError : mg "GaugeError" = some (.ref A.c_GaugeError)
  ge : GeT K mg A.c_GaugeError
  c_BadGauge : mg "BadGauge" = some (.ref A.c_BadGauge)
  xo_BadGauge : OexC K A.c_BadGauge
  xf_BadGauge : XfC K A.c_BadGauge
  n_BadGauge_name : PySem.W.findIn K (.ref A.c_BadGauge) "name" = some none
  c_DuplicateGauge : mg "DuplicateGauge" = some (.ref A.c_DuplicateGauge)
  xo_DuplicateGauge : OexC K A.c_DuplicateGauge
  xf_DuplicateGauge : XfC K A.c_DuplicateGauge
  n_DuplicateGauge_name : PySem.W.findIn K (.ref A.c_DuplicateGauge) "name" = some none
  xm_DuplicateGauge_DuplicateGauge : PySem.W.exmOne K (.ref A.c_DuplicateGauge) (.ref A.c_DuplicateGauge) = some true
  c_MissingReading : mg "MissingReading" = some (.ref A.c_MissingReading)
  xo_MissingReading : OexC K A.c_MissingReading
  xf_MissingReading : XfC K A.c_MissingReading
  n_MissingReading_name : PySem.W.findIn K (.ref A.c_MissingReading) "name" = some none
  c_BadRule : mg "BadRule" = some (.ref A.c_BadRule)
  xo_BadRule : OexC K A.c_BadRule
  xf_BadRule : XfC K A.c_BadRule
  n_BadRule_kind : PySem.W.findIn K (.ref A.c_BadRule) "kind" = some none
  xm_BadRule_BadRule : PySem.W.exmOne K (.ref A.c_BadRule) (.ref A.c_BadRule) = some true
  c_Rule : mg "Rule" = some (.ref A.c_Rule)
  c_Leaf : mg "Leaf" = some (.ref A.c_Leaf)
  cl_Leaf : Cls K A.c_Leaf
  is_Leaf : IsT K A.c_Leaf
  n_Leaf_label : NoAttr K A.c_Leaf "label"
  n_Leaf_numbers : NoAttr K A.c_Leaf "numbers"
  n_Leaf_parts : NoAttr K A.c_Leaf "parts"
  n_Leaf_ranked : NoAttr K A.c_Leaf "ranked"
  c_Rank : mg "Rank" = some (.ref A.c_Rank)
  cl_Rank : Cls K A.c_Rank
  is_Rank : IsT K A.c_Rank
  n_Rank_label : NoAttr K A.c_Rank "label"
  n_Rank_numbers : NoAttr K A.c_Rank "numbers"
  n_Rank_parts : NoAttr K A.c_Rank "parts"
  n_Rank_ranked : NoAttr K A.c_Rank "ranked"
  c_Trim : mg "Trim" = some (.ref A.c_Trim)
  cl_Trim : Cls K A.c_Trim
  is_Trim : IsT K A.c_Trim
  n_Trim_label : NoAttr K A.c_Trim "label"
  n_Trim_numbers : NoAttr K A.c_Trim "numbers"
  n_Trim_parts : NoAttr K A.c_Trim "parts"
  n_Trim_ranked : NoAttr K A.c_Trim "ranked"
  c_Weigh : mg "Weigh" = some (.ref A.c_Weigh)
  cl_Weigh : Cls K A.c_Weigh
  is_Weigh : IsT K A.c_Weigh
  n_Weigh_label : NoAttr K A.c_Weigh "label"
  n_Weigh_numbers : NoAttr K A.c_Weigh "numbers"
  n_Weigh_parts : NoAttr K A.c_Weigh "parts"
  n_Weigh_ranked : NoAttr K A.c_Weigh "ranked"
  xm_DuplicateGauge_BadRule : PySem.W.exmOne K (.ref A.c_DuplicateGauge) (.ref A.c_BadRule) = some false
  ec_BadRule : ExcC K A.c_BadRule
  kit_BadRule_DuplicateGauge : PySem.W.kitOne K (.ref A.c_BadRule) (.ref A.c_DuplicateGauge) = some false
  kit_BadRule_GaugeError : PySem.W.kitOne K (.ref A.c_BadRule) (.ref A.c_GaugeError) = some true
  ec_DuplicateGauge : ExcC K A.c_DuplicateGauge
  kit_DuplicateGauge_BadGauge : PySem.W.kitOne K (.ref A.c_DuplicateGauge) (.ref A.c_BadGauge) = some false
  kit_DuplicateGauge_GaugeError : PySem.W.kitOne K (.ref A.c_DuplicateGauge) (.ref A.c_GaugeError) = some true
  cli_Rule : CliT K A.c_Rule A.f_Rule_init
  mi_Leaf_names : Meth K A.c_Leaf "names" A.f_Leaf_names
  mi_Rank_names : Meth K A.c_Rank "names" A.f_Rule_names
  mi_Trim_names : Meth K A.c_Trim "names" A.f_Rule_names
  mi_Weigh_names : Meth K A.c_Weigh "names" A.f_Rule_names
  z_all : mg "all" = none
  z_any : mg "any" = none
  z_enumerate : mg "enumerate" = none
  z_int : mg "int" = none
  z_isinstance : mg "isinstance" = none
  z_len : mg "len" = none
  z_list : mg "list" = none
  z_range : mg "range" = none
  z_sum : mg "sum" = none
  z_tuple : mg "tuple" = none
theorem rcT_leaf {K : PySem.W.Frag} {mg : Str → Option Value} {A : Ad} (tx : Txt K mg A) : RcT (bs K A) .leaf := ⟨tx.cl_Leaf, tx.n_Leaf_label, tx.n_Leaf_numbers, tx.n_Leaf_parts, tx.n_Leaf_ranked⟩
theorem rcT_rank {K : PySem.W.Frag} {mg : Str → Option Value} {A : Ad} (tx : Txt K mg A) : RcT (bs K A) .rank := ⟨tx.cl_Rank, tx.n_Rank_label, tx.n_Rank_numbers, tx.n_Rank_parts, tx.n_Rank_ranked⟩
theorem rcT_trim {K : PySem.W.Frag} {mg : Str → Option Value} {A : Ad} (tx : Txt K mg A) : RcT (bs K A) .trim := ⟨tx.cl_Trim, tx.n_Trim_label, tx.n_Trim_numbers, tx.n_Trim_parts, tx.n_Trim_ranked⟩
theorem rcT_weigh {K : PySem.W.Frag} {mg : Str → Option Value} {A : Ad} (tx : Txt K mg A) : RcT (bs K A) .weigh := ⟨tx.cl_Weigh, tx.n_Weigh_label, tx.n_Weigh_numbers, tx.n_Weigh_parts, tx.n_Weigh_ranked⟩
/-! ### one step of the calculus -/
local macro_rules | `(tactic| walk_at "good") => `(tactic| first | exact trivial | exact ⟨trivial, trivial⟩ | exact fun _ _ => trivial | exact fun _ _ => ⟨trivial, trivial⟩ | exact ⟨trivial, trivial, trivial⟩ | exact ⟨⟨trivial, trivial⟩, ⟨trivial, trivial⟩, trivial, trivial⟩ | exact ⟨strOk_of _, trivial⟩ | exact ⟨strOk_of _, trivial, trivial⟩ | assumption | (show PyData.strOk _ = true; walk_at "strok"))
local macro_rules | `(tactic| walk_at "len") => `(tactic| ((try dsimp only); (try simp only [Str.length_append, emp_len]); (try rw [show (Str.ofString "Stretch(").length = 8 by decide]); (try rw [show (Str.ofString ", ").length = 2 by decide]); (try rw [show (Str.ofString ")").length = 1 by decide]); (try rw [show (Str.ofString "..").length = 2 by decide]); (try rw [show (Str.ofString "none").length = 4 by decide]); (try rw [show (Str.ofString "Levels(").length = 7 by decide]); omega))
local macro_rules | `(tactic| walk_at "strok") => `(tactic| repeat (first | exact strOk_of _ | exact strOk_emp | assumption | apply strOk_app))
local macro_rules | `(tactic| walk_at "frz") => `(tactic| repeat (first | exact .nil | apply Frz.own (by simp) | apply Frz.same))
local macro_rules | `(tactic| walk_at "hx") => `(tactic| first | exact hx_of (by assumption) | assumption | exact hx0)
local macro_rules | `(tactic| walk_at "g0") => `(tactic| first
  | ((with_reducible apply gd_s); first
    | ((with_reducible apply sx_set))
    | ((with_reducible apply sx_ret))
    | ((with_reducible apply sx_if))
    | ((with_reducible apply sx_next))
    | ((with_reducible apply sx_retN)))
  | ((with_reducible apply gd_var); first
    | ((with_reducible apply ev_var); (case h => exact rfl)))
  | ((with_reducible apply gd_c); first
    | ((with_reducible apply ev_int))
    | ((with_reducible apply ev_bl))
    | ((with_reducible apply ev_str))
    | ((with_reducible apply ev_non)))
  | ((with_reducible apply gd_op); first
    | ((with_reducible apply ev_opI))
    | ((with_reducible apply ev_opB))
    | ((with_reducible apply ev_eqG); (case hK => assumption))
    | ((with_reducible apply ev_neG); (case hK => assumption))
    | ((with_reducible apply ev_ixSp0); (case hK => assumption); (with_reducible apply ev_var); (case h => exact rfl))
    | ((with_reducible apply ev_ixSp1); (case hK => assumption); (with_reducible apply ev_var); (case h => exact rfl))
    | ((with_reducible apply ev_ixSp2); (case hK => assumption); (with_reducible apply ev_var); (case h => exact rfl))
    | ((with_reducible apply ev_ixSp3); (case hK => assumption); (with_reducible apply ev_var); (case h => exact rfl))
    | ((with_reducible apply ev_ixSp4); (case hK => assumption); (with_reducible apply ev_var); (case h => exact rfl))
    | ((with_reducible apply ev_ixSp5); (case hK => assumption); (with_reducible apply ev_var); (case h => exact rfl))
    | ((with_reducible apply ev_ixT3a); (case hK => assumption); (with_reducible apply ev_var); (case h => exact rfl))
    | ((with_reducible apply ev_ixT3b); (case hK => assumption); (with_reducible apply ev_var); (case h => exact rfl))
    | ((with_reducible apply ev_ixT3c); (case hK => assumption); (with_reducible apply ev_var); (case h => exact rfl))
    | ((with_reducible apply ev_ixT0); (case hK => assumption))
    | ((with_reducible apply ev_ixT1); (case hK => assumption))
    | ((with_reducible apply ev_ixL); (case hK => assumption))
    | ((with_reducible apply ev_pow); (case hc => exact ⟨by decide, by decide, by decide⟩))
    | ((with_reducible apply ev_ltP); (case hK => assumption))
    | ((with_reducible apply ev_ixO); (case hB => assumption))
    | ((with_reducible apply ev_opC))
    | ((with_reducible apply ev_cat))
    | ((with_reducible apply ev_addS))
    | ((with_reducible apply ev_inOwn); (case hB => assumption))
    | ((with_reducible apply ev_inI); (case hK => assumption))
    | ((with_reducible apply ev_inS); (case hK => assumption))
    | ((with_reducible apply ev_ixS))
    | ((with_reducible apply ev_notInI); (case hK => assumption))
    | ((with_reducible apply ev_eqO); (case hB => assumption); (case hK => exact rfl))
    | ((with_reducible apply ev_neO); (case hB => assumption); (case hK => exact rfl)))
  | ((with_reducible apply gd_un); first
    | ((with_reducible apply ev_unI)))
  | ((with_reducible apply gd_cb); first
    | ((with_reducible apply ev_len); (case hK => assumption))
    | ((with_reducible apply ev_intB); (with_reducible apply gd_op); first | (with_reducible apply ev_opB) | ((with_reducible apply ev_eqG); (case hK => assumption)))
    | ((with_reducible apply ev_intB); (with_reducible apply gd_k); (with_reducible apply ev_orV))
    | ((with_reducible apply ev_intI))
    | ((with_reducible apply ev_max2))
    | ((with_reducible apply ev_min2))
    | ((with_reducible apply ev_abs))
    | ((with_reducible apply ev_any); (case hK => assumption))
    | ((with_reducible apply ev_all); (case hK => assumption))
    | ((with_reducible apply ev_sum); (case hK => assumption))
    | ((with_reducible apply ev_minP); (case hK => assumption))
    | ((with_reducible apply ev_boolO); (case hB => assumption))
    | ((with_reducible apply ev_sortedP); (case hK => assumption))
    | ((with_reducible apply ev_sortedI); (case hK => assumption))
    | ((with_reducible apply ev_strO); (case hB => assumption))
    | ((with_reducible apply ev_lenO); (case hB => assumption))
    | ((with_reducible apply ev_strI))
    | ((with_reducible apply ev_isiGv); (case hK => assumption); (with_reducible apply ev_var); (case h => exact rfl))
    | ((with_reducible apply ev_isiO); (case hK => assumption))
    | ((with_reducible apply ev_isF); (case hB => assumption); (case hK => exact rfl)))
  | ((with_reducible apply gd_fld); first
    | ((with_reducible apply ev_low); (case hK => assumption); (case hS => exact stc_of (by assumption) (stcT (by assumption))))
    | ((with_reducible apply ev_high); (case hK => assumption); (case hS => exact stc_of (by assumption) (stcT (by assumption))))
    | ((with_reducible apply ev_gname); (case hK => assumption); (case hG => exact gau_of (by assumption) (gauT (by assumption))))
    | ((with_reducible apply ev_radius); (case hK => assumption); (case hG => exact gau_of (by assumption) (gauT (by assumption))))
    | ((with_reducible apply ev_step); (case hK => assumption); (case hG => exact gau_of (by assumption) (gauT (by assumption))))
    | ((with_reducible apply ev_late); (case hK => assumption); (case hG => exact gau_of (by assumption) (gauT (by assumption))))
    | ((with_reducible apply ev_pace); (case hK => assumption); (case hG => exact gau_of (by assumption) (gauT (by assumption))))
    | ((with_reducible apply ev_pieces); (case hK => assumption); (case hL => exact lvs_of (by assumption) (lvsT (by assumption)))))
  | ((with_reducible apply gd_call); first
    | ((with_reducible apply ev_callR); (case hB => assumption)))
  | ((with_reducible apply gd_tup); first
    | ((with_reducible apply ev_tup2))
    | ((with_reducible apply ev_tup3)))
  | ((with_reducible apply gd_lst); first
    | ((with_reducible apply ev_lst4))
    | ((with_reducible apply ev_lst)))
  | ((with_reducible apply gd_k); first
    | ((with_reducible apply ev_if))
    | ((with_reducible apply ev_andV))
    | ((with_reducible apply ev_orV))
    | ((with_reducible apply ev_notV))
    | ((with_reducible apply ev_chainP))
    | ((with_reducible apply ev_stretch); (case hB => assumption); (case hC => exact rfl))
    | ((with_reducible apply ev_stretchZ); (case hB => assumption); (case hC => exact rfl); (case hx => walk_at "hx"))
    | ((with_reducible apply ev_callZ); (case hB => assumption); (case hx => walk_at "hx"))
    | ((with_reducible apply ev_methZ); (case hB => assumption); (case hx => walk_at "hx"))
    | ((with_reducible apply ev_binI); (case hB => assumption); (case hx => walk_at "hx"))
    | ((with_reducible apply ev_binO); (case hB => assumption); (case hx => walk_at "hx"))
    | ((with_reducible apply ev_negO); (case hB => assumption); (case hx => walk_at "hx"))
    | ((with_reducible apply ev_xfI); (case hC => exact xcl_of (by assumption) rfl))
    | ((with_reducible apply ev_xfP); (case hC => exact xcl_of (by assumption) rfl))
    | ((with_reducible apply ev_makeV); (case hB => assumption); (case hi => exact rfl); (case hC => exact rfl))
    | ((with_reducible apply ev_levels); (case hB => assumption); (case hC => exact rfl))
    | ((with_reducible apply (ev_cmethZ .Stretch)); (case hB => assumption); (case hC => exact rfl); (case hx => walk_at "hx"))
    | ((with_reducible apply (ev_cmethZ .Levels)); (case hB => assumption); (case hC => exact rfl); (case hx => walk_at "hx"))
    | ((with_reducible apply ev_propZ); (case hB => assumption))
    | ((with_reducible apply ev_propX); (case hB => assumption); (case hx => walk_at "hx"))
    | ((with_reducible apply ev_joined))
    | ((with_reducible apply ev_fmtI)))
  | ((with_reducible apply gd_t); first
    | ((with_reducible apply et_test))
    | ((with_reducible apply et_B))
    | ((with_reducible apply et_not))
    | ((with_reducible apply et_and))
    | ((with_reducible apply et_or))
    | ((with_reducible apply et_yes))
    | ((with_reducible apply et_truthL); (case hK => assumption)))
  | ((with_reducible apply gd_a); first
    | ((with_reducible apply ea_nil))
    | ((with_reducible apply ea_cons)))
  | ((with_reducible apply gd_l); first
    | ((with_reducible apply el_nil))
    | ((with_reducible apply el_cons))
    | ((with_reducible apply el_starL); (case hK => assumption))
    | ((with_reducible apply el_starT); (case hK => assumption)))
  | ((with_reducible apply gd_j); first
    | ((with_reducible apply ej_nil))
    | ((with_reducible apply ej_cons)))
  | ((with_reducible apply tg_name))
  | ((with_reducible apply tj_name))
  | ((with_reducible apply tj_tup2); (case hK => assumption))
  | ((with_reducible apply tj_tup3); (case hK => assumption))
  | ((with_reducible apply eqg_in); (case h1 => decide); (case h2 => walk_at "good"); (case h3 => walk_at "good"))
  | ((with_reducible apply neg_in); (case h1 => decide); (case h2 => walk_at "good"); (case h3 => walk_at "good"))
  | ((with_reducible apply ownM_in); (case hC => exact rfl); (case hm => decide))
  | ((with_reducible apply own_in); (case hC => exact rfl))
  | ((with_reducible apply tyG_in); (case hn => exact nf_self))
  | ((with_reducible apply plnG_in))
  | ((with_reducible apply isO_self); (case hT => exact isT_of (by assumption) (by first | exact (by assumption : Txt _ _ _).is_Stretch | exact (by assumption : Txt _ _ _).is_Levels)); (case hC => exact cl_of (by assumption) rfl))
  | ((with_reducible apply chg_in); (case h1 => walk_at "g"; exact rfl))
  | (refine And.intro (by show _ ≤ 100000; first | exact Nat.le_of_ble_eq_true rfl | omega | (dsimp only; omega)) ?_)
  | (refine And.intro (show CMul _ _ from Or.inl ⟨by omega, by omega⟩) ?_)
  | (refine And.intro (show CMul _ _ from Or.inr ⟨by omega, by omega⟩) ?_)
  | (refine And.intro (show CDiv _ _ from ⟨by omega, by omega⟩) ?_)
  | (refine And.intro (show (0 : Int) < _ by omega) ?_)
  | (refine And.intro (by assumption : Small _) ?_)
  | (refine And.intro (show Small _ from Small.of (by omega) (by omega)) ?_)
  | (refine And.intro (by show _ ≤ 1000000; walk_at "len") ?_)
  | fail)
local macro_rules | `(tactic| walk_at "g1") => `(tactic| first | ((with_reducible apply gd_set); (conv => arg 3; dsimp only [List.set])) | (with_reducible apply sx_seq) | walk_at "g0")
local macro_rules | `(tactic| walk_at "s1") => `(tactic| first | ((with_reducible apply gd_set); (conv => arg 3; dsimp only [List.set])) | (with_reducible apply sx_seqA) | (with_reducible apply sx_seqD) | walk_at "g0")
local macro_rules | `(tactic| walk_at "s") => `(tactic| repeat walk_at "s1")
local macro_rules | `(tactic| walk_at "g") => `(tactic| repeat walk_at "g1")

section
variable {P : Program} {w : World} {K : PySem.W.Frag} {mg : Str → Option Value} {base : Heap} {A : Ad}
def P_take : PT := fun rt xx ts => ∃ (m : Int), ts = [T Bx.mk, T m] ∧ (0 < m ∧ m < 1073741824 ∧ ∀ k : Int, 0 ≤ k → k < m → rt (T k))
theorem pc_take {rt : Ty → Prop} {xx : Xn → Prop} {m : Int} (h : 0 < m ∧ m < 1073741824 ∧ ∀ k : Int, 0 ≤ k → k < m → rt (T k)) : P_take rt xx [T Bx.mk, T m] := ⟨_, rfl, h⟩
theorem ok_take (tx : Txt K mg A) : FnR P w K mg base CX0 1 A.f_take (spG (bs K A) P_take) := by
  refine fnR_of tx.g_take.d sc_take (fun vs H Q E h => ?_) (fun cdv Ar outer s H vs Q E hr h => ?_)
  · exact len_ok (n := 2) (fun rt xx ts hp => by obtain ⟨_, rfl, _⟩ := hp; rfl) vs H Q E h
  · refine ⟨_, (pss_cons (ps_set (i := 2) sc_take.nd rfl (Or.inl rfl) (pe_ix (ix_listK K) (pv 0) pe_int (fun _ _ => rfl)))
        (pss_cons (ps_if (PW.pt (pw_and (pt_cmpR (op_eqDK K (huD hr)) (pe_ix (ix_listK K) (pv 0) pe_int (fun _ _ => rfl)) pe_int (nomark _)) (pw_and (pt_cmpR op_lt (pe_ix (ix_listK K) (pv 0) pe_int (fun _ _ => rfl)) (pe_callB (call_lenK K) (by rfl) tx.z_len PySem.boot_len (pa_cons (pv 2) pa_nil)) (nomark _)) (pw_and1 (pt_cmpR op_gt (pe_ix (ix_listK K) (pv 2) (pe_ix (ix_listK K) (pv 0) pe_int (fun _ _ => rfl)) (fun _ _ => rfl)) (pe_op op_pow pe_int pe_int) (nomark _)))))) (pss_cons (ps_asg (pe_op op_sub (pe_ix (ix_listK K) (pv 2) (pe_ix (ix_listK K) (pv 0) pe_int (fun _ _ => rfl)) (fun _ _ => rfl)) (pe_op op_pow pe_int pe_int)) (pg_sub (pv 0) pe_int set_list))
        (pss_one (ps_asg (pe_op op_add (pe_ix (ix_listK K) (pv 0) pe_int (fun _ _ => rfl)) pe_int) (pg_sub (pv 0) pe_int set_list)))) pss_nil)
        (pss_cons (ps_if (pt_cmpR op_gt (pe_ix (ix_listK K) (pv 0) pe_int (fun _ _ => rfl)) pe_int (nomark _)) (pss_cons (ps_set (i := 3) sc_take.nd rfl (Or.inl rfl) (pe_op op_mod (pe_callTy call_int1 (by rfl) tx.z_int (by decide +kernel) (pa_cons (pe_ix (ix_listK K) (pv 0) pe_int (fun _ _ => rfl)) pa_nil)) (pv 1)))
        (pss_cons (ps_asg (pe_op op_fdiv (pe_callTy call_int1 (by rfl) tx.z_int (by decide +kernel) (pa_cons (pe_ix (ix_listK K) (pv 0) pe_int (fun _ _ => rfl)) pa_nil)) (pv 1)) (pg_sub (pv 0) pe_int set_list))
        (pss_one (ps_ret (pv 3))))) pss_nil)
        (pss_cons (ps_set (i := 4) sc_take.nd rfl (Or.inl rfl) pe_int)
        (pss_cons (ps_if (pt_cmpR op_lt (pe_ix (ix_listK K) (pv 0) pe_int (fun _ _ => rfl)) (pe_callB (call_lenK K) (by rfl) tx.z_len PySem.boot_len (pa_cons (pv 2) pa_nil)) (nomark _)) (pss_one (ps_set (i := 4) sc_take.nd rfl (Or.inl rfl) (pe_callTy call_int1 (by rfl) tx.z_int (by decide +kernel) (pa_cons (pe_ix (ix_listK K) (pv 2) (pe_ix (ix_listK K) (pv 0) pe_int (fun _ _ => rfl)) (fun _ _ => rfl)) pa_nil)))) pss_nil)
        (pss_cons (ps_asg (pe_op op_add (pe_ix (ix_listK K) (pv 0) pe_int (fun _ _ => rfl)) pe_int) (pg_sub (pv 0) pe_int set_list))
        (pss_cons (ps_asg (pe_op op_mod (pe_callTy call_int1 (by rfl) tx.z_int (by decide +kernel) (pa_cons (pe_op op_add (pe_op op_add (pe_op op_mul (pe_ix (ix_listK K) (pv 0) pe_int (fun _ _ => rfl)) pe_int) (pe_op op_mul (pv 4) pe_int)) (pe_ix (ix_listK K) (pv 0) pe_int (fun _ _ => rfl))) pa_nil)) pe_int) (pg_sub (pv 0) pe_int set_list))
        (pss_one (ps_ret (pe_op op_mod (pe_op op_mod (pe_callTy call_int1 (by rfl) tx.z_int (by decide +kernel) (pa_cons (pe_op op_add (pe_op op_mul (pe_op op_fdiv (pe_ix (ix_listK K) (pv 0) pe_int (fun _ _ => rfl)) pe_int) pe_int) (pe_op op_mod (pe_callTy call_int1 (by rfl) tx.z_int (by decide +kernel) (pa_cons (pe_ix (ix_listK K) (pv 0) pe_int (fun _ _ => rfl)) pa_nil)) pe_int)) pa_nil)) pe_int) (pv 1))))))))))), ?_⟩
    try dsimp only [cxOf, Cx.nox]
    obtain ⟨W, ts, rt, xx, hB, ho, d, ⟨m, rfl, hm0, hm1, hk⟩, hq, hx⟩ := h
    cases d with
    | cons db d2 =>
    cases d2 with
    | cons dm d3 =>
    cases d3
    obtain ⟨b, rfl, hbx⟩ : ∃ b, _ = V.ref b ∧ W.box b := db
    obtain rfl : _ = V.int m := dm
    obtain ⟨c, ns, i, p, s, hbc, hb0, hc0, hi, hp⟩ := W.hasbox H b ho hbx
    have mb := W.boxmu b hbx
    -- the end: any state of the box will do
    have fin : ∀ (i' p' s' k : Int), 0 ≤ i' → 0 ≤ p' → 0 ≤ k → k < m → Q (.int k) (upd H b (.lst [.ref c, .int i', .int p', .int s'])) := by
      intro i' p' s' k h1 h2 h3 h4
      refine hq (.int k) _ (T k) ⟨fun a o n e => ?_, W.boxset H b c i p s i' p' s' ho hbx hb0 h1 h2⟩ rfl (hk k h3 h4)
      rw [upd_ne (fun z => n (by rw [z]; exact mb))]; exact e
    have hlen : ((ns.map V.int).length : Int) = ns.length := by rw [List.length_map]
    have cell : ∀ j : Int, 0 ≤ j → j < ns.length → ∃ z, atI (ns.map V.int) j = some (V.int z) := by
      intro j h1 h2
      obtain ⟨n, rfl⟩ : ∃ n : Nat, j = (n : Int) := ⟨j.toNat, by omega⟩
      have hn : n < ns.length := by omega
      exact ⟨ns[n], atI_nat (by rw [List.getElem?_map, List.getElem?_eq_getElem hn]; rfl)⟩
    have p18 : ((10 : Int) ^ (18 : Int).toNat) = 1000000000000000000 := by decide
    have c18 : CPow 10 18 := ⟨by decide, by decide, by decide⟩
    have modk : ∀ y : Int, 0 ≤ y % m ∧ y % m < m := fun y => ⟨Int.emod_nonneg _ (by omega), Int.emod_lt_of_pos _ hm0⟩
    refine ⟨_, rfl, b, _, 0, .ref c, rfl, rfl, .inl (.inl hb0), rfl, ?_⟩
    -- if box[2] == 0 and ..
    refine ⟨_, rfl, b, _, 2, .int p, rfl, rfl, .inl (.inl hb0), rfl, .int p, .int 0, .int p, .int 0, rfl, rfl, _, rfl, ?_⟩
    by_cases h0 : p = 0
    · refine itT (by rw [h0]; rfl) ?_
      refine ⟨_, rfl, b, _, 1, .int i, rfl, rfl, .inl (.inl hb0), rfl, _, rfl, c, _, rfl, .inl (.inl (.inl hc0)), i, _, rfl, rfl, _, rfl, ?_⟩
      -- the third test is False, or the place lies beyond: on with the cell
      have rest : ∀ cl : Int, tSeq
          (tAsg (tOp (rI0 fun i j => V.int (i + j)) (tOp (rIxL K) (tVar 0) (tC (V.int 1))) (tC (V.int 1))) (gSub (tVar 0) (tC (V.int 1)) rSetL))
          (tSeq
            (tAsg (tOp (rI (fun x j => 0 < j) fun i j => V.int (i % j)) (tCB (fun xs H Q => (∃ i, xs = [V.int i] ∧ Q (V.int i) H) ∨ ∃ k, xs = [V.bl k] ∧ Q (V.int (if k = true then 1 else 0)) H)
              (tCons (tOp (rI0 fun i j => V.int (i + j)) (tOp (rI0 fun i j => V.int (i + j)) (tOp (rI CMul fun i j => V.int (i * j)) (tOp (rIxL K) (tVar 0) (tC (V.int 3))) (tC (V.int 48271))) (tOp (rI CMul fun i j => V.int (i * j)) (tVar 4) (tC (V.int 7))))
                (tOp (rIxL K) (tVar 0) (tC (V.int 1)))) tNil)) (tC (V.int 2147483647))) (gSub (tVar 0) (tC (V.int 3)) rSetL))
            (tRet (tOp (rI (fun x j => 0 < j) fun i j => V.int (i % j)) (tOp (rI (fun x j => 0 < j) fun i j => V.int (i % j)) (tCB (fun xs H Q => (∃ i, xs = [V.int i] ∧ Q (V.int i) H) ∨ ∃ k, xs = [V.bl k] ∧ Q (V.int (if k = true then 1 else 0)) H)
              (tCons (tOp (rI0 fun i j => V.int (i + j)) (tOp (rI CMul fun i j => V.int (i * j)) (tOp (rI CDiv fun i j => V.int (i / j)) (tOp (rIxL K) (tVar 0) (tC (V.int 3))) (tC (V.int 8))) (tC (V.int 31)))
                (tOp (rI (fun x j => 0 < j) fun i j => V.int (i % j)) (tCB (fun xs H Q => (∃ i, xs = [V.int i] ∧ Q (V.int i) H) ∨ ∃ k, xs = [V.bl k] ∧ Q (V.int (if k = true then 1 else 0)) H) (tCons (tOp (rIxL K) (tVar 0) (tC (V.int 3))) tNil)) (tC (V.int 65537)))) tNil))
              (tC (V.int 1000003))) (tVar 1))))
          { nx := fun _ H' => Q .non H', rt := Q } [some (.ref b), some (.int m), some (.ref c), none, some (.int cl)] H := by
        intro cl
        refine ⟨_, rfl, b, _, 1, .int i, rfl, rfl, .inl (.inl hb0), rfl, i, 1, rfl, rfl, _, rfl, b, _, 1, 1, rfl, rfl, hb0, rfl, ?_⟩
        refine ⟨_, rfl, b, _, 3, .int s, rfl, rfl, .inl (.inl upd_same), rfl, s, 48271, rfl, rfl, .inr ⟨by decide, by decide⟩, ?_⟩
        refine ⟨_, rfl, cl, 7, rfl, rfl, .inr ⟨by decide, by decide⟩, _, _, rfl, rfl, ?_⟩
        refine ⟨_, rfl, b, _, 1, .int (i + 1), rfl, rfl, .inl (.inl upd_same), rfl, _, _, rfl, rfl, .inl ⟨_, rfl, _, 2147483647, rfl, rfl, by show (0 : Int) < 2147483647; decide, ?_⟩⟩
        refine ⟨_, rfl, b, _, 3, 3, rfl, rfl, upd_same, rfl, ?_⟩
        rw [upd_upd]
        refine ⟨_, rfl, b, _, 3, .int _, rfl, rfl, .inl (.inl upd_same), rfl, _, 8, rfl, rfl, ⟨by decide, by decide⟩, _, 31, rfl, rfl, .inr ⟨by decide, by decide⟩, ?_⟩
        refine ⟨_, rfl, b, _, 3, .int _, rfl, rfl, .inl (.inl upd_same), rfl, .inl ⟨_, rfl, _, 65537, rfl, rfl, by show (0 : Int) < 65537; decide, _, _, rfl, rfl, .inl ⟨_, rfl, _, 1000003, rfl, rfl, by show (0 : Int) < 1000003; decide, ?_⟩⟩⟩
        exact ⟨_, rfl, _, m, rfl, rfl, hm0, fin (i + 1) p _ _ (by omega) (by omega) (modk _).1 (modk _).2⟩
      -- behind the two ifs: no pending number
      have cont : ∀ σ2 : L2.St, σ2 = [some (.ref b), some (.int m), some (.ref c), none, none] → ∀ t1 : TS, ∀ t2, t2 = tSeq
          (tIfS (tTest (tOp (rI0 fun i j => V.bl (decide (j < i))) (tOp (rIxL K) (tVar 0) (tC (V.int 2))) (tC (V.int 0)))) t1 tNext)
          (tSeq (tAsg (tC (V.int 0)) (gName 4))
            (tSeq
              (tIfS (tTest (tOp (rI0 fun i j => V.bl (decide (i < j))) (tOp (rIxL K) (tVar 0) (tC (V.int 1))) (tCB (fun xs H Q => ∃ p ys, xs = [V.ref p] ∧ (SqL K H p ys ∨ SqT K H p ys) ∧ Q (V.int ↑ys.length) H) (tCons (tVar 2) tNil))))
                (tAsg (tCB (fun xs H Q => (∃ i, xs = [V.int i] ∧ Q (V.int i) H) ∨ ∃ k, xs = [V.bl k] ∧ Q (V.int (if k = true then 1 else 0)) H) (tCons (tOp (rIxL K) (tVar 2) (tOp (rIxL K) (tVar 0) (tC (V.int 1)))) tNil)) (gName 4)) tNext)
              (tSeq
          (tAsg (tOp (rI0 fun i j => V.int (i + j)) (tOp (rIxL K) (tVar 0) (tC (V.int 1))) (tC (V.int 1))) (gSub (tVar 0) (tC (V.int 1)) rSetL))
          (tSeq
            (tAsg (tOp (rI (fun x j => 0 < j) fun i j => V.int (i % j)) (tCB (fun xs H Q => (∃ i, xs = [V.int i] ∧ Q (V.int i) H) ∨ ∃ k, xs = [V.bl k] ∧ Q (V.int (if k = true then 1 else 0)) H)
              (tCons (tOp (rI0 fun i j => V.int (i + j)) (tOp (rI0 fun i j => V.int (i + j)) (tOp (rI CMul fun i j => V.int (i * j)) (tOp (rIxL K) (tVar 0) (tC (V.int 3))) (tC (V.int 48271))) (tOp (rI CMul fun i j => V.int (i * j)) (tVar 4) (tC (V.int 7))))
                (tOp (rIxL K) (tVar 0) (tC (V.int 1)))) tNil)) (tC (V.int 2147483647))) (gSub (tVar 0) (tC (V.int 3)) rSetL))
            (tRet (tOp (rI (fun x j => 0 < j) fun i j => V.int (i % j)) (tOp (rI (fun x j => 0 < j) fun i j => V.int (i % j)) (tCB (fun xs H Q => (∃ i, xs = [V.int i] ∧ Q (V.int i) H) ∨ ∃ k, xs = [V.bl k] ∧ Q (V.int (if k = true then 1 else 0)) H)
              (tCons (tOp (rI0 fun i j => V.int (i + j)) (tOp (rI CMul fun i j => V.int (i * j)) (tOp (rI CDiv fun i j => V.int (i / j)) (tOp (rIxL K) (tVar 0) (tC (V.int 3))) (tC (V.int 8))) (tC (V.int 31)))
                (tOp (rI (fun x j => 0 < j) fun i j => V.int (i % j)) (tCB (fun xs H Q => (∃ i, xs = [V.int i] ∧ Q (V.int i) H) ∨ ∃ k, xs = [V.bl k] ∧ Q (V.int (if k = true then 1 else 0)) H) (tCons (tOp (rIxL K) (tVar 0) (tC (V.int 3))) tNil)) (tC (V.int 65537)))) tNil))
              (tC (V.int 1000003))) (tVar 1))))))) → t2 { nx := fun _ H' => Q .non H', rt := Q } σ2 H := by
        intro σ2 e t1 t2 e2
        subst e
        subst e2
        refine ⟨_, rfl, b, _, 2, .int p, rfl, rfl, .inl (.inl hb0), rfl, p, 0, rfl, rfl, _, rfl, ?_⟩
        refine itF (decide_eq_false (by omega)) ?_
        refine ⟨_, rfl, b, _, 1, .int i, rfl, rfl, .inl (.inl hb0), rfl, _, rfl, c, _, rfl, .inl (.inl (.inl hc0)), i, _, rfl, rfl, _, rfl, ?_⟩
        by_cases h1 : i < ns.length
        · obtain ⟨z, hz⟩ := cell i hi h1
          refine itT (decide_eq_true (by omega)) ?_
          refine ⟨_, rfl, _, rfl, b, _, 1, .int i, rfl, rfl, .inl (.inl hb0), rfl, c, _, i, .int z, rfl, rfl, .inl (.inl hc0), hz, .inl ⟨z, rfl, ?_⟩⟩
          exact rest z
        · refine itF (decide_eq_false (by omega)) ?_
          exact rest 0
      by_cases h1 : i < ns.length
      · refine itT (decide_eq_true (by omega)) ?_
        obtain ⟨z, hz⟩ := cell i hi h1
        refine ⟨_, rfl, _, rfl, b, _, 1, .int i, rfl, rfl, .inl (.inl hb0), rfl, c, _, i, .int z, rfl, rfl, .inl (.inl hc0), hz, 10, 18, rfl, rfl, c18, z, _, rfl, rfl, _, rfl, ?_⟩
        by_cases h2 : (1000000000000000000 : Int) < z
        · -- the cell is a pending number
          refine itT (decide_eq_true (by rw [p18]; exact h2)) ?_
          refine ⟨_, rfl, _, rfl, b, _, 1, .int i, rfl, rfl, .inl (.inl hb0), rfl, c, _, i, .int z, rfl, rfl, .inl (.inl hc0), hz, 10, 18, rfl, rfl, c18, z, _, rfl, rfl, ?_⟩
          refine ⟨_, rfl, b, _, 2, 2, rfl, rfl, hb0, rfl, ?_⟩
          refine ⟨_, rfl, b, _, 1, .int i, rfl, rfl, .inl (.inl upd_same), rfl, i, 1, rfl, rfl, _, rfl, b, _, 1, 1, rfl, rfl, upd_same, rfl, ?_⟩
          rw [upd_upd]
          refine ⟨_, rfl, b, _, 2, .int _, rfl, rfl, .inl (.inl upd_same), rfl, _, 0, rfl, rfl, _, rfl, ?_⟩
          refine itT (decide_eq_true (by rw [p18]; omega)) ?_
          refine ⟨_, rfl, b, _, 2, .int _, rfl, rfl, .inl (.inl upd_same), rfl, .inl ⟨_, rfl, _, rfl, _, m, rfl, rfl, hm0, ?_⟩⟩
          refine ⟨_, rfl, b, _, 2, .int _, rfl, rfl, .inl (.inl upd_same), rfl, .inl ⟨_, rfl, _, rfl, _, m, rfl, rfl, ⟨hm0, hm1⟩, _, rfl, b, _, 2, 2, rfl, rfl, upd_same, rfl, ?_⟩⟩
          rw [upd_upd]
          refine ⟨_, rfl, fin (i + 1) _ s _ (by omega) (Int.ediv_nonneg (by rw [p18]; omega) (by omega)) (modk _).1 (modk _).2⟩
        · refine itF (decide_eq_false (by rw [p18]; exact h2)) ?_
          exact cont _ rfl _ _ rfl
      · refine itF (decide_eq_false (by omega)) ?_
        exact cont _ rfl _ _ rfl
    · refine itF (by show (p == 0) = false; simp [h0]) ?_
      refine ⟨_, rfl, b, _, 2, .int p, rfl, rfl, .inl (.inl hb0), rfl, p, 0, rfl, rfl, _, rfl, ?_⟩
      refine itT (decide_eq_true (by omega)) ?_
      refine ⟨_, rfl, b, _, 2, .int p, rfl, rfl, .inl (.inl hb0), rfl, .inl ⟨_, rfl, _, rfl, _, m, rfl, rfl, hm0, ?_⟩⟩
      refine ⟨_, rfl, b, _, 2, .int p, rfl, rfl, .inl (.inl hb0), rfl, .inl ⟨_, rfl, _, rfl, _, m, rfl, rfl, ⟨hm0, hm1⟩, _, rfl, b, _, 2, 2, rfl, rfl, hb0, rfl, ?_⟩⟩
      exact ⟨_, rfl, fin i _ s _ hi (Int.ediv_nonneg hp (by omega)) (modk _).1 (modk _).2⟩
def spBox (K : PySem.W.Frag) : Sp := fun vs H Q E => ∃ (a : Addr) (ns : List Int) (s : Int), vs = [.ref a, .int s] ∧ SqL K H a (ns.map V.int) ∧ ns.length ≤ 63 ∧
  ∀ (b c : Addr) (H' : Hp), b ≠ c → H' b = some (.lst [.ref c, .int 0, .int 0, .int s]) → H' c = some (.lst (ns.map V.int)) → Q (.ref b) H' 
theorem ok_box (tx : Txt K mg A) : FnR P w K mg base CX0 1 A.f_box (spBox K) := by
  refine fnR_of tx.g_box.d sc_box (fun vs H Q E h => ?_) (fun cdv Ar outer s H vs Q E hr h => ?_)
  · obtain ⟨a, ns, s, rfl, _⟩ := h; rfl
  · refine ⟨_, (pss_one (ps_ret (pe_lst (pa_cons (pe_lc (own := [("_law_cell", 2)]) rfl sc_box.nd (pi_listK K (pe_slice (sl_listK K) (pv 0) po_none (po_some pe_int))) (blkOk_by (N := ["_law_script", "_law_salt", "_law_cell"]) (sc := defScope s_box) (by decide +kernel)) (fun _ _ _ _ _ => (pg_name (i := 2) sc_box.nd rfl (Or.inl rfl))) (fun _ _ _ _ _ => pts_nil) (fun _ _ _ _ _ => (pe_callTy call_int1 (by rfl) tx.z_int (by decide +kernel) (pa_cons (pv 2) pa_nil)))) (pa_cons pe_int (pa_cons pe_int (pa_cons (pv 1) pa_nil))))))), ?_⟩
    try dsimp only [cxOf, Cx.nox]
    obtain ⟨a, ns, s, rfl, hS, hl, k⟩ := h
    refine ⟨_, rfl, _, rfl, a, _, rfl, hS, fun p hp => ⟨p, rfl, ⟨_, .inl (.inl upd_same)⟩, fun D nD => ?_⟩⟩
    have hpD : p ≠ D := ne_of_none upd_same nD
    have hcut : cutV (ns.map V.int) none (some 63) = ns.map V.int := by
      unfold cutV
      show (List.drop 0 (ns.map V.int)).take (HT.sIx (ns.map V.int).length (ns.map V.int).length (some 63) - 0) = _
      rw [List.drop_zero]
      have e : HT.sIx (ns.map V.int).length (ns.map V.int).length (some 63) = (ns.map V.int).length := by
        rw [List.length_map]
        unfold HT.sIx
        simp
        omega
      rw [e, Nat.sub_zero, List.take_length]
    rw [hcut]
    refine lc_list (xs := ns.map V.int) (fun i H' => H' p = some (.lst (ns.map V.int)) ∧ H' D = some (.lst ((ns.take i).map V.int))) ⟨by rw [upd_ne hpD]; exact upd_same, upd_same⟩ (fun i H' _ h => .inl (.inl h.1)) ?_ ?_
    · rintro i x H' hx ⟨h1, h2⟩
      obtain ⟨z, hz, rfl⟩ : ∃ z, ns[i]? = some z ∧ x = V.int z := by
        rw [List.getElem?_map] at hx
        cases e : ns[i]? with
        | none => rw [e] at hx; cases hx
        | some z => rw [e] at hx; exact ⟨z, rfl, (Option.some.inj hx).symm⟩
      have hi := (List.getElem?_eq_some_iff.mp hz).1
      refine ⟨rfl, ?_⟩
      refine yes_then ?_
      refine ⟨_, rfl, .inl ⟨z, rfl, _, h2, ?_, ?_, ?_⟩⟩
      · exact Nat.lt_of_le_of_lt (by rw [List.length_map]; exact List.length_take_le' _ _) (Nat.lt_of_le_of_lt hl (by decide : 63 < sizeLine))
      · rw [upd_ne hpD]; exact h1
      · rw [upd_same, List.take_succ, hz, List.map_append]; rfl
    · rintro H' ⟨h1, h2⟩
      rw [List.length_map, List.take_length] at h2
      refine ⟨_, rfl, by show 4 ≤ sizeLine; decide, fun b hb => ?_⟩
      have hbD : b ≠ D := (ne_of_none h2 hb).symm
      exact k b D _ hbD upd_same (by rw [upd_ne hbD.symm]; exact h2)
def P_word : PT := fun rt xx ts => ∃ (n : Int) (m : Int) (b : Bool), ts = [T n, T m, T b] ∧ (0 ≤ n ∧ n ≤ 1000000000 ∧ 0 ≤ m ∧ m ≤ 12 ∧ rt (T (wordS n m.toNat b)))
theorem pc_word {rt : Ty → Prop} {xx : Xn → Prop} {n : Int} {m : Int} {b : Bool} (h : 0 ≤ n ∧ n ≤ 1000000000 ∧ 0 ≤ m ∧ m ≤ 12 ∧ rt (T (wordS n m.toNat b))) : P_word rt xx [T n, T m, T b] := ⟨_, _, _, rfl, h⟩
theorem ok_word (tx : Txt K mg A) : FnR P w K mg base CX0 1 A.f_word (spG (bs K A) P_word) := by
  refine fnR_of tx.g_word.d sc_word (len_ok (n := 3) fun rt xx ts hp => by obtain ⟨_, _, _, rfl, _⟩ := hp; rfl) (fun cdv Ar outer s H vs Q E hr h => ⟨_, (pss_cons (ps_set (i := 3) sc_word.nd rfl (Or.inl rfl) pe_str)
        (pss_cons (ps_for PassesOwn.never rfl (pi_range1 (by rfl) tx.z_range (pa_cons (pv 1) pa_nil)) (pg_name (i := 4) sc_word.nd rfl (Or.inl rfl)) (pss_cons (ps_set (i := 3) sc_word.nd rfl (Or.inl rfl) (pe_op op_add_str (pv 3) (pe_ix ix_str pe_str (pe_op op_mod (pe_callTy call_int1 (by rfl) tx.z_int (by decide +kernel) (pa_cons (pv 0) pa_nil)) pe_int) (fun _ _ => rfl))))
        (pss_one (ps_set (i := 0) sc_word.nd rfl (Or.inl rfl) (pe_op op_fdiv (pe_callTy call_int1 (by rfl) tx.z_int (by decide +kernel) (pa_cons (pv 0) pa_nil)) pe_int)))))
        (pss_cons (ps_if (pt_val (pv 2)) (pss_one (ps_ret (pe_revS (pv 3)))) pss_nil)
        (pss_one (ps_ret (pv 3)))))),
      body_ok (N := ["_law_number", "_law_many", "_law_back", "_law_word_here", "_law_turn"]) (fun W ts rt xx hB ho hw hp => ?_) h⟩)
  have hK : W.B.K = K := congrArg Bs.K hB
  obtain ⟨n, m, b, rfl, hp⟩ := hp
  show Sx W _ [some (T n), some (T m), some (T b), none, none] _
  obtain ⟨h1, h2, h3, h4, hp⟩ := hp
  walk_at "g"
  apply sx_forR
  walk_at "g"
  refine ⟨by omega, fun i Γ' => ∃ (ni : Int) (z : Str) (o4 : Option Ty), 0 ≤ ni ∧ ni ≤ 1000000000 ∧ z.length = i ∧ z.cps.toList ++ wordL (m.toNat - i) ni = wordL m.toNat n ∧ Γ' = [some (T ni), some (T m), some (T b), some (T z), o4], ⟨n, Str.ofString "", none, h1, h2, by decide +kernel, ?_, rfl⟩, ?_, ?_⟩
  · rw [show (Str.ofString "").cps.toList = [] by decide +kernel]
    rfl
  · rintro i Γ' hi ⟨ni, z, o4, n0, n1, zl, ze, rfl⟩
    have hi' : i < m.toNat := hi
    obtain ⟨r, hr⟩ : ∃ r, m.toNat - i = r + 1 := ⟨m.toNat - i - 1, by omega⟩
    rw [hr] at ze
    have q0 : 0 ≤ ni % 26 := Int.emod_nonneg _ (by decide)
    have q1 : ni % 26 < 26 := Int.emod_lt_of_pos _ (by decide)
    apply tg_of
    walk_at "g"
    refine ⟨_, abc_at q0 q1, by show z.length + 1 ≤ 1000000; omega, ?_⟩
    walk_at "g"
    refine ⟨ni / 26, _, _, by omega, by omega, by rw [snoc_len, zl], ?_, rfl⟩
    rw [snoc_list, List.append_assoc, show m.toNat - (i + 1) = r by omega, ← ze]
    rfl
  · rintro Γ' ⟨ni, z, o4, n0, n1, zl, ze, rfl⟩
    have hz : z.cps.toList = wordL m.toNat n := by
      rw [Nat.sub_self] at ze
      rw [← ze]
      exact (List.append_nil _).symm
    obtain ⟨w1, w2⟩ := wordS_of hz
    walk_at "g"
    refine ⟨fun hb => ?_, fun hb => ?_⟩
    · apply sx_ret
      refine ev_revS ?_
      walk_at "g"
      rw [hb, w2] at hp
      exact hp
    · walk_at "g"
      rw [hb, w1] at hp
      exact hp
def P_words : PT := fun rt xx ts => ∃ (m : Int), ts = [T Bx.mk, T m] ∧ (0 ≤ m ∧ m ≤ 16 ∧ ∀ ws : List Str, (ws.length : Int) = m → ws.Nodup → (∀ w ∈ ws, GoodW w) → rt (T ws))
theorem pc_words {rt : Ty → Prop} {xx : Xn → Prop} {m : Int} (h : 0 ≤ m ∧ m ≤ 16 ∧ ∀ ws : List Str, (ws.length : Int) = m → ws.Nodup → (∀ w ∈ ws, GoodW w) → rt (T ws)) : P_words rt xx [T Bx.mk, T m] := ⟨_, rfl, h⟩
theorem ok_words (tx : Txt K mg A) : FnR P w K mg base CX0 2 A.f_words (spG (bs K A) P_words) := by
  have G_take := ok_take (P := P) (w := w) (base := base) tx
  have G_word := ok_word (P := P) (w := w) (base := base) tx
  refine fnR_of tx.g_words.d sc_words (len_ok (n := 2) fun rt xx ts hp => by obtain ⟨_, rfl, _⟩ := hp; rfl) (fun cdv Ar outer s H vs Q E hr h => ⟨_, (pss_cons (ps_set (i := 2) sc_words.nd rfl (Or.inl rfl) (pe_lst pa_nil))
        (pss_cons (ps_set (i := 3) sc_words.nd rfl (Or.inl rfl) (pe_cmpR (op_eqDK K (huD hr)) (pe_callR G_take (room hr) rfl (tx.g_take).g (tx.g_take).kp pass0 (pa_cons (pv 0) (pa_cons pe_int pa_nil))) pe_int (nomark _)))
        (pss_cons (ps_for PassesOwn.never rfl (pi_range1 (by rfl) tx.z_range (pa_cons (pv 1) pa_nil)) (pg_name (i := 4) sc_words.nd rfl (Or.inl rfl)) (pss_cons (ps_set (i := 5) sc_words.nd rfl (Or.inl rfl) (pe_ix (ix_listK K) (pe_lst (pa_cons pe_int (pa_cons pe_int (pa_cons pe_int (pa_cons pe_int (pa_cons pe_int (pa_cons pe_int pa_nil))))))) (pe_callR G_take (room hr) rfl (tx.g_take).g (tx.g_take).kp pass0 (pa_cons (pv 0) (pa_cons pe_int pa_nil))) (fun _ _ => rfl)))
        (pss_cons (ps_set (i := 6) sc_words.nd rfl (Or.inl rfl) (pe_callR G_take (room hr) rfl (tx.g_take).g (tx.g_take).kp pass0 (pa_cons (pv 0) (pa_cons pe_int pa_nil))))
        (pss_cons (ps_set (i := 7) sc_words.nd rfl (Or.inl rfl) (pe_callR G_word (room hr) rfl (tx.g_word).g (tx.g_word).kp pass0 (pa_cons (pv 6) (pa_cons (pv 5) (pa_cons (pv 3) pa_nil)))))
        (pss_cons (ps_for PassesOwn.never rfl (pi_range1 (by rfl) tx.z_range (pa_cons pe_int pa_nil)) (pg_name (i := 8) sc_words.nd rfl (Or.inl rfl)) (pss_one (ps_if (PW.pt (pw_or (pt_cmpR (op_inSeqK K) (pv 7) (pv 2) rfl) (pw_or1 (pt_cmpR (op_inSeqK K) (pv 7) (pe_lst (pa_cons pe_str (pa_cons pe_str (pa_cons pe_str (pa_cons pe_str pa_nil))))) rfl)))) (pss_cons (ps_set (i := 6) sc_words.nd rfl (Or.inl rfl) (pe_op op_add (pv 6) pe_int))
        (pss_one (ps_set (i := 7) sc_words.nd rfl (Or.inl rfl) (pe_callR G_word (room hr) rfl (tx.g_word).g (tx.g_word).kp pass0 (pa_cons (pv 6) (pa_cons (pv 5) (pa_cons (pv 3) pa_nil))))))) pss_nil)))
        (pss_one (ps_expr (pe_appendK K (pv 2) (pa_cons (pv 7) pa_nil)))))))))
        (pss_one (ps_ret (pv 2)))))),
      body_ok (N := ["_law_box_here", "_law_many", "_law_words_here", "_law_back", "_law_turn", "_law_wide", "_law_number", "_law_word_here", "_law_again"]) (fun W ts rt xx hB ho hw hp => ?_) h⟩)
  have hK : W.B.K = K := congrArg Bs.K hB
  obtain ⟨m, rfl, hp⟩ := hp
  show Sx W _ [some (T Bx.mk), some (T m), none, none, none, none, none, none, none] _
  obtain ⟨h1, h2, hp⟩ := hp
  refine sx_own fun F => ?_
  refine sxm_seq (sxm_new (β := Str) (rβ := inferInstance) fun Wo hW => evF_lst (el_nil (α := Str) (rα := inferInstance) ⟨by decide, fun p vs => ?_⟩))
  show SxM W F _ [(p, vs)] [some (T Bx.mk), some (T m), some (T (Ol.mk p vs ([] : List Str))), none, none, none, none, none, none] _
  refine sxm_seq (sxm_pure fun Wo hW => ?_)
  have hBo : Wo.B = bs K A := hW.B.trans hB
  have hKo : Wo.B.K = K := congrArg Bs.K hBo
  walk_at "g"
  refine pc_take ⟨by decide, by decide, fun bk b0 b1 => ⟨_, rfl, ?_⟩⟩
  walk_at "g"
  generalize decide (bk = 1) = back
  show SxM W F _ [(p, vs)] [some (T Bx.mk), some (T m), some (T (Ol.mk p vs ([] : List Str))), some (T back), none, none, none, none, none] _
  refine sxm_seq (sxm_forR fun Wo2 hW2 => ?_)
  walk_at "g"
  refine ⟨by omega, fun i L' Γ' => ∃ (vs' : List V) (as : List Str) (o4 o5 o6 o7 o8 : Option Ty), L' = [(p, vs')] ∧ as.length = i ∧ as.Nodup ∧ (∀ w ∈ as, GoodW w) ∧ Γ' = [some (T Bx.mk), some (T m), some (T (Ol.mk p vs' as)), some (T back), o4, o5, o6, o7, o8], ⟨vs, [], none, none, none, none, none, rfl, rfl, List.nodup_nil, fun _ h => (nomatch h), rfl⟩, ?_, ?_⟩
  · rintro i L' Γ' hi ⟨vs', as, o4, o5, o6, o7, o8, rfl, al, an, ag, rfl⟩ Wo' hW'
    have hi' : i < m.toNat := hi
    apply tg_of
    walk_at "g"
    show SxM W F _ [(p, vs')] [some (T Bx.mk), some (T m), some (T (Ol.mk p vs' as)), some (T back), some (T (i : Int)), o5, o6, o7, o8] _
    refine sxm_seq (sxm_pure fun Wo3 hW3 => ?_)
    have hB3 : Wo3.B = bs K A := hW3.B.trans hB
    have hK3 : Wo3.B.K = K := congrArg Bs.K hB3
    apply sx_set
    refine ev_ixL (α := Int) (rα := inferInstance) hK3 ?_
    apply ev_lst
    walk_at "g"
    refine pc_take ⟨by decide, by decide, fun z z0 z1 => ⟨_, rfl, ?_⟩⟩
    have hw : ∃ w : Int, atI [1, 1, 2, 3, 5, 12] z = some w ∧ 1 ≤ w ∧ w ≤ 12 := by
      have : z = 0 ∨ z = 1 ∨ z = 2 ∨ z = 3 ∨ z = 4 ∨ z = 5 := by omega
      rcases this with rfl | rfl | rfl | rfl | rfl | rfl
      · exact ⟨1, rfl, by omega, by omega⟩
      · exact ⟨1, rfl, by omega, by omega⟩
      · exact ⟨2, rfl, by omega, by omega⟩
      · exact ⟨3, rfl, by omega, by omega⟩
      · exact ⟨5, rfl, by omega, by omega⟩
      · exact ⟨12, rfl, by omega, by omega⟩
    obtain ⟨wd, hw, w0, w1⟩ := hw
    refine ⟨wd, hw, ?_⟩
    show SxM W F _ [(p, vs')] [some (T Bx.mk), some (T m), some (T (Ol.mk p vs' as)), some (T back), some (T (i : Int)), some (T wd), o6, o7, o8] _
    refine sxm_seq (sxm_pure fun Wo4 hW4 => ?_)
    have hB4 : Wo4.B = bs K A := hW4.B.trans hB
    have hK4 : Wo4.B.K = K := congrArg Bs.K hB4
    walk_at "g"
    refine pc_take ⟨by decide, by decide, fun n n0 n1 => ⟨_, rfl, ?_⟩⟩
    show SxM W F _ [(p, vs')] [some (T Bx.mk), some (T m), some (T (Ol.mk p vs' as)), some (T back), some (T (i : Int)), some (T wd), some (T n), o7, o8] _
    refine sxm_seq (sxm_pure fun Wo5 hW5 => ?_)
    have hB5 : Wo5.B = bs K A := hW5.B.trans hB
    have hK5 : Wo5.B.K = K := congrArg Bs.K hB5
    walk_at "g"
    refine pc_word ⟨by omega, by omega, by omega, by omega, _, rfl, ?_⟩
    obtain ⟨k, rfl⟩ : ∃ k : Nat, wd = k := ⟨wd.toNat, by omega⟩
    rw [Int.toNat_natCast]
    show SxM W F _ [(p, vs')] [some (T Bx.mk), some (T m), some (T (Ol.mk p vs' as)), some (T back), some (T (i : Int)), some (T (k : Int)), some (T n), some (T (wordS n k back)), o8] _
    refine sxm_seq (sxm_forR fun Wo6 hW6 => ?_)
    walk_at "g"
    refine ⟨by omega, fun j L' Γ' => ∃ (q : Nat) (o8 : Option Ty), L' = [(p, vs')] ∧ q ≤ j ∧ ((q = j ∧ ∀ t : Nat, t < q → wordS (n + (t : Int)) k back ∈ as ++ barS) ∨ wordS (n + (q : Int)) k back ∉ as ++ barS) ∧ Γ' = [some (T Bx.mk), some (T m), some (T (Ol.mk p vs' as)), some (T back), some (T (i : Int)), some (T (k : Int)), some (T (n + (q : Int))), some (T (wordS (n + (q : Int)) k back)), o8], ⟨0, o8, rfl, Nat.le_refl _, .inl ⟨rfl, fun t ht => absurd ht (Nat.not_lt_zero _)⟩, ?_⟩, ?_, ?_⟩
    · show _ = [some (T Bx.mk), some (T m), some (T (Ol.mk p vs' as)), some (T back), some (T (i : Int)), some (T (k : Int)), some (T (n + ((0 : Nat) : Int))), some (T (wordS (n + ((0 : Nat) : Int)) k back)), o8]
      rw [show n + ((0 : Nat) : Int) = n by omega]
    · rintro j L'' Γ'' hj ⟨q, o8', rfl, hqj, hq, rfl⟩ Wo7 hW7
      have hj' : j < 20 := hj
      apply tg_of
      walk_at "g"
      show SxM W F _ [(p, vs')] [some (T Bx.mk), some (T m), some (T (Ol.mk p vs' as)), some (T back), some (T (i : Int)), some (T (k : Int)), some (T (n + (q : Int))), some (T (wordS (n + (q : Int)) k back)), some (T (j : Int))] _
      refine sxm_ifB (Γ' := [some (T Bx.mk), some (T m), some (T as), some (T back), some (T (i : Int)), some (T (k : Int)), some (T (n + (q : Int))), some (T (wordS (n + (q : Int)) k back)), some (T (j : Int))]) (by walk_at "frz") ?_
      apply et_or
      apply et_test
      refine ev_inS hK ?_
      walk_at "g"
      refine ⟨fun hi1 => ⟨fun _ => ?_, fun h => (nomatch h)⟩, fun hi1 => ?_⟩
      · have hin : wordS (n + (q : Int)) k back ∈ as ++ barS := List.mem_append_left _ (of_decide_eq_true hi1)
        have hq2 : q = j ∧ ∀ t : Nat, t < q → wordS (n + (t : Int)) k back ∈ as ++ barS := by
          rcases hq with h' | h'
          · exact h'
          · exact absurd hin h'
        obtain ⟨rfl, hall⟩ := hq2
        refine sxm_seq (sxm_pure fun Wo8 hW8 => ?_)
        have hB8 : Wo8.B = bs K A := hW8.B.trans hB
        have hK8 : Wo8.B.K = K := congrArg Bs.K hB8
        walk_at "g"
        show SxM W F _ [(p, vs')] [some (T Bx.mk), some (T m), some (T (Ol.mk p vs' as)), some (T back), some (T (i : Int)), some (T (k : Int)), some (T (n + (q : Int) + 1)), some (T (wordS (n + (q : Int)) k back)), some (T (q : Int))] _
        refine sxm_pure fun Wo9 hW9 => ?_
        have hB9 : Wo9.B = bs K A := hW9.B.trans hB
        have hK9 : Wo9.B.K = K := congrArg Bs.K hB9
        walk_at "g"
        refine pc_word ⟨by omega, by omega, by omega, by omega, _, rfl, ?_⟩
        rw [Int.toNat_natCast]
        refine ⟨q + 1, some (T (q : Int)), rfl, Nat.le_refl _, .inl ⟨rfl, fun t ht => ?_⟩, ?_⟩
        · by_cases e : t < q
          · exact hall t e
          · have e2 : t = q := by omega
            rw [e2]
            exact hin
        · rw [show n + ((q + 1 : Nat) : Int) = n + (q : Int) + 1 by omega]
          rfl
      · apply et_test
        refine ev_inS hK ?_
        walk_at "g0"
        apply ev_lst
        walk_at "g"
        refine ⟨fun hi2 => ?_, fun hi2 => ?_⟩
        · have hin : wordS (n + (q : Int)) k back ∈ as ++ barS := List.mem_append_right _ (of_decide_eq_true hi2)
          have hq2 : q = j ∧ ∀ t : Nat, t < q → wordS (n + (t : Int)) k back ∈ as ++ barS := by
            rcases hq with h' | h'
            · exact h'
            · exact absurd hin h'
          obtain ⟨rfl, hall⟩ := hq2
          refine sxm_seq (sxm_pure fun Wo8 hW8 => ?_)
          have hB8 : Wo8.B = bs K A := hW8.B.trans hB
          have hK8 : Wo8.B.K = K := congrArg Bs.K hB8
          walk_at "g"
          show SxM W F _ [(p, vs')] [some (T Bx.mk), some (T m), some (T (Ol.mk p vs' as)), some (T back), some (T (i : Int)), some (T (k : Int)), some (T (n + (q : Int) + 1)), some (T (wordS (n + (q : Int)) k back)), some (T (q : Int))] _
          refine sxm_pure fun Wo9 hW9 => ?_
          have hB9 : Wo9.B = bs K A := hW9.B.trans hB
          have hK9 : Wo9.B.K = K := congrArg Bs.K hB9
          walk_at "g"
          refine pc_word ⟨by omega, by omega, by omega, by omega, _, rfl, ?_⟩
          rw [Int.toNat_natCast]
          refine ⟨q + 1, some (T (q : Int)), rfl, Nat.le_refl _, .inl ⟨rfl, fun t ht => ?_⟩, ?_⟩
          · by_cases e : t < q
            · exact hall t e
            · have e2 : t = q := by omega
              rw [e2]
              exact hin
          · rw [show n + ((q + 1 : Nat) : Int) = n + (q : Int) + 1 by omega]
            rfl
        · refine sxm_next ⟨q, _, rfl, by omega, .inr fun hm => ?_, rfl⟩
          rcases List.mem_append.mp hm with hm | hm
          · exact (of_decide_eq_false hi1) hm
          · exact (of_decide_eq_false hi2) hm
    · rintro L'' Γ'' ⟨q, o8', rfl, hqj, hq, rfl⟩
      have hno : wordS (n + (q : Int)) k back ∉ as ++ barS := by
        rcases hq with ⟨hq, hall⟩ | hq
        · have hq : q = 20 := hq
          subst hq
          exact (words_free (by omega) (by rw [List.length_append]; show as.length + 4 < 20; omega) hall).elim
        · exact hq
      have hna : wordS (n + (q : Int)) k back ∉ as := fun h => hno (List.mem_append_left _ h)
      have hnb : wordS (n + (q : Int)) k back ∉ barS := fun h => hno (List.mem_append_right _ h)
      refine sxm_append (α := Str) (rα := inferInstance) 0 rfl rfl fun Wo8 hW8 => ?_
      walk_at "g"
      refine fun v => ⟨_, _, _, _, _, _, _, rfl, ?_, ?_, ?_, rfl⟩
      · rw [List.length_append, al]
        rfl
      · refine List.nodup_append.mpr ⟨an, by simp, fun a ha b hb e => ?_⟩
        rw [List.mem_singleton.mp hb] at e
        exact hna (e ▸ ha)
      · intro w hw
        rcases List.mem_append.mp hw with hw | hw
        · exact ag w hw
        · rw [List.mem_singleton.mp hw]
          exact ⟨by rw [wordS_len]; omega, by rw [wordS_len]; omega, wordS_az, hnb⟩
  · rintro L' Γ' ⟨vs', as, o4, o5, o6, o7, o8, rfl, al, an, ag, rfl⟩
    refine sxm_freeze (Γ' := [some (T Bx.mk), some (T m), some (T as), some (T back), o4, o5, o6, o7, o8]) (by walk_at "frz") ?_
    refine sxm_pure fun Wf hWf => ?_
    walk_at "g"
    exact hp as (by omega) an ag
theorem ok_DuplicateGauge_init (tx : Txt K mg A) : FnR P w K mg base CX0 1 A.f_DuplicateGauge_init (spEr A.c_DuplicateGauge (shStr "name")) := by
  refine fnR_of tx.d_DuplicateGauge_init sc_DuplicateGauge_init (fun vs H Q E h => ?_) (fun cdv Ar outer s H vs Q E hr h => ?_)
  · obtain ⟨a, as, fs, rfl, ⟨i, rfl, _⟩, _⟩ := h; rfl
  · refine ⟨_, (pss_cons (ps_expr (pe_geinitK K tx.ge (pa_cons (pv 0) (pa_cons (pe_joined (PJ.cons pe_str (PJ.cons (pe_fmtR (pv 1)) (PJ.cons pe_str PJ.nil)))) pa_nil))))
        (pss_one (ps_ostK K (pv 0) (pv 1)))), ?_⟩
    try dsimp only [cxOf, Cx.nox]
    obtain ⟨a, as, fs, rfl, ⟨i, rfl, s1, s2, rfl⟩, ha, k⟩ := h
    exact err_one tx.xo_DuplicateGauge tx.n_DuplicateGauge_name rfl rfl (first_ge tx.xo_DuplicateGauge rfl ha fun Q q => js_ok q (.cons c_is (by decide) (.cons (fmt_rep (var_is rfl) s1) s1 (.cons c_is (by decide) .nil))) (by decide)) ha k
theorem ok_BadRule_init (tx : Txt K mg A) : FnR P w K mg base CX0 1 A.f_BadRule_init (spEr A.c_BadRule (shStr "kind")) := by
  refine fnR_of tx.d_BadRule_init sc_BadRule_init (fun vs H Q E h => ?_) (fun cdv Ar outer s H vs Q E hr h => ?_)
  · obtain ⟨a, as, fs, rfl, ⟨i, rfl, _⟩, _⟩ := h; rfl
  · refine ⟨_, (pss_cons (ps_expr (pe_geinitK K tx.ge (pa_cons (pv 0) (pa_cons (pe_joined (PJ.cons pe_str (PJ.cons (pe_fmt (pv 1)) (PJ.cons pe_str PJ.nil)))) pa_nil))))
        (pss_one (ps_ostK K (pv 0) (pv 1)))), ?_⟩
    try dsimp only [cxOf, Cx.nox]
    obtain ⟨a, as, fs, rfl, ⟨i, rfl, s1, s2, rfl⟩, ha, k⟩ := h
    exact err_one tx.xo_BadRule tx.n_BadRule_kind rfl rfl (first_ge tx.xo_BadRule rfl ha fun Q q => js_ok q (.cons c_is (by decide) (.cons (fmt_str (var_is rfl) s2) s2 (.cons c_is (by decide) .nil))) (by decide)) ha k
def P_Leaf_names : PF Str := fun k ts => ∃ r : Ru, ts = [T r] ∧ r.k = .leaf ∧ k (namesF r)
theorem ok_Leaf_names (tx : Txt K mg A) : FnR P w K mg base CX0 1 A.f_Leaf_names (spFr (bs K A) P_Leaf_names) := by
  refine fnR_of tx.d_Leaf_names sc_Leaf_names (fun vs H Q E h => ?_) (fun cdv Ar outer s H vs Q E hr h => ?_)
  · obtain ⟨W, ts, k, _, _, _, d, ⟨r, rfl, _⟩, _⟩ := h; exact d.length
  · refine ⟨_, (pss_one (ps_ret (pe_lst (pa_cons (pe_fldK K (pv 0) rfl) pa_nil)))), ?_⟩
    try dsimp only [cxOf, Cx.nox]
    obtain ⟨W, ts, k, hB, ho, hw, d, ⟨r, rfl, hk, kk⟩, hq⟩ := h
    have hK : W.B.K = K := congrArg Bs.K hB
    have G0 : GOk W H (L2.start ["self"] vs) [some (T r)] := start_ok ho hw d
    refine (evF_lst (k := fun bs => bs = namesF r) (el_cons (ev_rlabel hK (ev_var rfl (el_nil ⟨by show 1 ≤ 100000; decide, (namesF_leaf hk).symm⟩)))) : EvF W _ [some (T r)] _) _ H _ G0 fun p H' ws bs n e hp hd q => hq p H' ws bs n e hp hd (q ▸ kk)
def P_Rule_names (d : Nat) : PF Str := fun k ts => ∃ r : Ru, ts = [T r] ∧ (r.k ≠ .leaf ∧ depR r ≤ d ∧ kdsR [RK.leaf, RK.rank, RK.trim, RK.weigh] r ∧ (namesF r).length ≤ 1000) ∧ k (namesF r)
theorem ok_Rule_names (tx : Txt K mg A) : ∀ d : Nat, FnR P w K mg base CX0 (d + 2) A.f_Rule_names (spFr (bs K A) (P_Rule_names d)) := by
  intro d
  induction d with
  | zero => 
    exact fun _ _ _ _ _ _ _ _ _ _ _ h => by
      obtain ⟨W, ts, k, _, _, _, _, ⟨r, _, ⟨hk, hd, _⟩, _⟩, _⟩ := h
      rw [depR_node hk] at hd
      omega
  | succ d ih =>
  have G_Rule_names := ih
  have G_Leaf_names := ok_Leaf_names (P := P) (w := w) (base := base) tx
  refine fnR_of tx.d_Rule_names sc_Rule_names (fun vs H Q E h => ?_) (fun cdv Ar outer s H vs Q E hr h => ?_)
  · obtain ⟨W, ts, k, _, _, _, d, ⟨r, rfl, _⟩, _⟩ := h; exact d.length
  · refine ⟨_, (pss_one (ps_ret (pe_lc2 (own := [("part", 1), ("name", 2)]) (vs1 := [2]) rfl sc_Rule_names.nd (pi_tupK K (pe_fldK K (pv 0) rfl)) (blkOk_by (N := ["self", "part", "name"]) (sc := defScope s_Rule_names) (by decide +kernel)) (by decide) (fun _ _ _ _ _ => (pg_name (i := 1) sc_Rule_names.nd rfl (Or.inl rfl))) (fun _ _ _ _ _ => pts_nil) (fun _ _ _ _ _ => (pi_listK K (pe_methV0 (k := (d + 2)) (E := fun _ => E0) (S := (fun C sp => (C = A.c_Leaf ∧ sp = (spFr (bs K A) P_Leaf_names)) ∨ (C = A.c_Rank ∧ sp = (spFr (bs K A) (P_Rule_names d))) ∨ (C = A.c_Trim ∧ sp = (spFr (bs K A) (P_Rule_names d))) ∨ (C = A.c_Weigh ∧ sp = (spFr (bs K A) (P_Rule_names d))))) (pv 1) (fun C sp h => match C, sp, h with | _, _, .inl ⟨rfl, rfl⟩ => ⟨tx.cl_Leaf, _, tx.mi_Leaf_names, FnR.mono G_Leaf_names (by omega)⟩ | _, _, .inr (.inl ⟨rfl, rfl⟩) => ⟨tx.cl_Rank, _, tx.mi_Rank_names, FnR.mono G_Rule_names (by omega)⟩ | _, _, .inr (.inr (.inl ⟨rfl, rfl⟩)) => ⟨tx.cl_Trim, _, tx.mi_Trim_names, FnR.mono G_Rule_names (by omega)⟩ | _, _, .inr (.inr (.inr (⟨rfl, rfl⟩))) => ⟨tx.cl_Weigh, _, tx.mi_Weigh_names, FnR.mono G_Rule_names (by omega)⟩) (room hr (by omega)) passS0))) (fun _ _ _ _ _ => (pg_name (i := 2) sc_Rule_names.nd rfl (Or.inl rfl))) (fun _ _ _ _ _ => pts_nil) (fun _ _ _ _ _ => (pv 2))))), ?_⟩
    try dsimp only [cxOf, Cx.nox]
    obtain ⟨W, ts, k, hB, ho, hw, dt, ⟨r, rfl, ⟨hk, hdr, hkr, hln⟩, kk⟩, hq⟩ := h
    have hK : W.B.K = K := congrArg Bs.K hB
    have G0 : GOk W H (L2.start ["self", "part", "name"] vs) [some (T r), none, none] := start_ok ho hw dt
    rw [depR_node hk] at hdr
    have hdp : depRL r.ps < d + 1 := by omega
    obtain ⟨_, hks⟩ := kdsR_node.mp hkr
    have hnm := namesF_node hk
    rw [hnm] at hln kk
    have hpl : ∀ p ∈ r.ps, (namesF p).length ≤ 1000 := fun p hp => Nat.le_trans (names_mem_le hp) hln
    refine (evF_lc2G (α := Ru) (β := Str) (γ := Str) (rα := inferInstance) (rβ := inferInstance) (rγ := inferInstance) namesF (k := fun bs => bs = r.ps.flatMap namesF) (ei_tup hK (ev_rparts hK (ev_var rfl ?_))) : EvF W _ [some (T r), none, none] _) _ H _ G0 fun p H' ws bs n e hp hd q => hq p H' ws bs n e hp hd (q ▸ kk)
    refine ⟨by show (r.ps.flatMap namesF).length ≤ 100000; omega, fun W' sb p hpm => ⟨[1], rfl, ?_⟩, rfl⟩
    have hB' : W'.B = bs K A := sb.B.trans hB
    have hK' : W'.B.K = K := congrArg Bs.K hB'
    apply tj_name
    refine et_yes ⟨fun h => (nomatch h), fun _ => ei_list hK' ?_⟩
    refine (evF_methW (β := Ru) (γ := Str) (k := fun bs => bs = namesF p) hB' (by decide) (ev_var rfl ?_)).k.imp ?_
    · have hkp := (kdsR_node.mp (kdsRL_mem hks hpm)).1
      have hkk : p.k ∈ [RK.leaf, RK.rank, RK.trim, RK.weigh] := hkp
      show ∃ P : PF Str, _ ∧ EvA W' tNil _ fun ts => P _ (T p :: ts)
      cases hk2 : p.k with
      | leaf => exact ⟨_, .inl (⟨kn_ru hk2, rfl⟩), ea_nil ⟨_, rfl, hk2, rfl⟩⟩
      | rank => exact ⟨_, .inr (.inl (⟨kn_ru hk2, rfl⟩)), ea_nil ⟨_, rfl, ⟨by rw [hk2]; decide, Nat.le_of_lt_succ (Nat.lt_of_le_of_lt (depR_mem hpm) hdp), kdsRL_mem hks hpm, hpl p hpm⟩, rfl⟩⟩
      | trim => exact ⟨_, .inr (.inr (.inl (⟨kn_ru hk2, rfl⟩))), ea_nil ⟨_, rfl, ⟨by rw [hk2]; decide, Nat.le_of_lt_succ (Nat.lt_of_le_of_lt (depR_mem hpm) hdp), kdsRL_mem hks hpm, hpl p hpm⟩, rfl⟩⟩
      | weigh => exact ⟨_, .inr (.inr (.inr (⟨kn_ru hk2, rfl⟩))), ea_nil ⟨_, rfl, ⟨by rw [hk2]; decide, Nat.le_of_lt_succ (Nat.lt_of_le_of_lt (depR_mem hpm) hdp), kdsRL_mem hks hpm, hpl p hpm⟩, rfl⟩⟩
    · rintro bs rfl
      refine ⟨fun _ => true, id, by rw [List.filter_eq_self.mpr (fun _ _ => rfl), List.map_id], fun W2 sb2 b hb => ⟨[2], rfl, ?_⟩⟩
      apply tj_name
      exact et_yes ⟨rfl, fun _ => ev_var rfl rfl⟩
def P_Rule_init (K : PySem.W.Frag) (A : Ad) : PI RuB := fun c k x ts => ∃ (kd : RK) (lb : Str) (ns : List Int) (ps : List Ru), c = kd.cn ∧ (ts = [T lb, T (Tl.mk ns), T (Tl.mk ps)] ∨ ts = [T lb, T ns, T (Tl.mk ps)]) ∧ RcT (bs K A) kd ∧ (kd ∈ [RK.leaf, RK.rank, RK.trim, RK.weigh] ∧ kdsRL [RK.leaf, RK.rank, RK.trim, RK.weigh] ps ∧ depRL ps ≤ 7 ∧ ps.length ≤ 1000 ∧ (namesF (.mk kd lb ns ps (ps.all Ru.rk))).length ≤ 1000) ∧
  (match dupF (namesF (.mk kd lb ns ps (ps.all Ru.rk))) with | none => k (ruB lb ns ps (ps.all Ru.rk)) | some n => (reprText n).length ≤ 3000 ∧ n.length ≤ 3000 ∧ x ⟨.DuplicateGauge, [("name", .s n)]⟩)
theorem ok_Rule_init (tx : Txt K mg A) : FnR P w K mg base (L2.CX P w) 11 A.f_Rule_init (spIn (bs K A) (P_Rule_init K A)) := by
  have G_Leaf_names := ok_Leaf_names (P := P) (w := w) (base := base) tx
  have G_Rule_names := ok_Rule_names (P := P) (w := w) (base := base) tx 8
  have G_DuplicateGauge_init := ok_DuplicateGauge_init (P := P) (w := w) (base := base) tx
  refine fnRX_of tx.d_Rule_init sc_Rule_init (fun vs H Q E h => ?_) (fun cdv Ar outer s H vs Q E hr h => ?_)
  · obtain ⟨W, F, p, dx, c, ws, ts, k, x, oF, nF, rfl, _, _, _, _, hd, ⟨kd, lb, ns, ps, _, hts, _⟩, _⟩ := h
    have := hd.length
    rcases hts with rfl | rfl <;> exact congrArg (· + 1) this
  · refine ⟨_, (pss_cons (ps_fldK K (pv 0) (pv 1) rfl)
        (pss_cons (ps_fldK K (pv 0) (pe_tupleOfK K (by rfl) tx.z_tuple (pv 2)) rfl)
        (pss_cons (ps_fldK K (pv 0) (pv 3) rfl)
        (pss_cons (ps_fldK K (pv 0) (pe_callB (cr_all rfl) (by rfl) tx.z_all (by decide +kernel) (pa_cons (pe_lc (own := [("part", 4)]) rfl sc_Rule_init.nd (pi_tupK K (pv 3)) (blkOk_by (N := ["self", "label", "numbers", "parts", "part", "names", "at", "name"]) (sc := defScope s_Rule_init) (by decide +kernel)) (fun _ _ _ _ _ => (pg_name (i := 4) sc_Rule_init.nd rfl (Or.inl rfl))) (fun _ _ _ _ _ => pts_nil) (fun _ _ _ _ _ => (pe_fldK K (pv 4) rfl))) pa_nil)) rfl)
        (pss_cons (ps_set (i := 5) sc_Rule_init.nd rfl (Or.inl rfl) (pe_methV0 (k := 10) (E := fun _ => E0) (S := (fun C sp => (C = A.c_Leaf ∧ sp = (spFr (bs K A) P_Leaf_names)) ∨ (C = A.c_Rank ∧ sp = (spFr (bs K A) (P_Rule_names 8))) ∨ (C = A.c_Trim ∧ sp = (spFr (bs K A) (P_Rule_names 8))) ∨ (C = A.c_Weigh ∧ sp = (spFr (bs K A) (P_Rule_names 8))))) (pv 0) (fun C sp h => match C, sp, h with | _, _, .inl ⟨rfl, rfl⟩ => ⟨tx.cl_Leaf, _, tx.mi_Leaf_names, FnR.mono G_Leaf_names (by decide)⟩ | _, _, .inr (.inl ⟨rfl, rfl⟩) => ⟨tx.cl_Rank, _, tx.mi_Rank_names, FnR.mono G_Rule_names (by decide)⟩ | _, _, .inr (.inr (.inl ⟨rfl, rfl⟩)) => ⟨tx.cl_Trim, _, tx.mi_Trim_names, FnR.mono G_Rule_names (by decide)⟩ | _, _, .inr (.inr (.inr (⟨rfl, rfl⟩))) => ⟨tx.cl_Weigh, _, tx.mi_Weigh_names, FnR.mono G_Rule_names (by decide)⟩) (room hr) passS0))
        (pss_one (ps_for PassesOwn.leaving rfl (pi_enum (by rfl) tx.z_enumerate (pa_cons (pv 5) pa_nil)) (pg_tupK (n := 2) K rfl (pgs_cons (pg_name (i := 6) sc_Rule_init.nd rfl (Or.inl rfl)) (pgs_cons (pg_name (i := 7) sc_Rule_init.nd rfl (Or.inl rfl)) pgs_nil))) (pss_one (ps_if (pt_cmpR (op_inSeqK K) (pv 7) (pe_slice (sl_listK K) (pv 5) po_none (po_some (pv 6))) rfl) (pss_one (ps_raise rfl (takes_of rfl rfl rfl rfl) (pmk_oexR tx.xo_DuplicateGauge tx.xi_DuplicateGauge tx.xt_DuplicateGauge G_DuplicateGauge_init (room hr) pass0 rfl tx.c_DuplicateGauge (pa_cons (pv 7) pa_nil)))) pss_nil))))))))), ?_⟩
    refine init_ok (N := ["self", "label", "numbers", "parts", "part", "names", "at", "name"]) (fun W F p dx c ts k x hB hw hp => ?_) h
    have hK : W.B.K = K := congrArg Bs.K hB
    obtain ⟨kd, lb, ns, ps, rfl, hts, hc, ⟨hkk, hkds, hdep, hpl, hln⟩, hend⟩ := hp
    have hc' : RcT W.B kd := by rw [hB]; exact hc
    obtain ⟨c0, n1, n2, n3, n4⟩ := hc.use hB hK
    obtain ⟨o2, rfl, htup⟩ : ∃ o2 : Ty, ts = [T lb, o2, T (Tl.mk ps)] ∧ ∀ (Wo : Wd) (Γ : Gam) (k : Tl Int → Prop), Wo.B.K = K → Γ[2]? = some (some o2) → k ⟨ns⟩ → EvK Wo (tThen (tVar 2) (kTup K)) Γ k := by
      rcases hts with rfl | rfl
      · exact ⟨T (Tl.mk ns), rfl, fun Wo Γ k hKo hi q => ev_tupT hKo (ev_var hi q)⟩
      · exact ⟨T ns, rfl, fun Wo Γ k hKo hi q => ev_tupL hKo (ev_var hi q)⟩
    show SxH W F _ [(p, .ins (W.B.cl kd.cn) dx [])] [some (T (Oi.mk p kd.cn dx [] ())), some (T lb), some o2, some (T (Tl.mk ps)), none, none, none, none] _
    refine sxh_seq (sxh_setn (α := Str) (rα := inferInstance) (f := "label") 0 hK c0 n1 rfl rfl (by show 0 < 1000; decide) (fun z => (nomatch z)) fun Wo hW => ev_var rfl fun fs1 => ?_)
    show SxH W F _ [(p, .ins (W.B.cl kd.cn) dx fs1)] [some (T (Oi.mk p kd.cn dx fs1 ((⟨"label", lb⟩, ()) : Fd Str × Unit))), some (T lb), some o2, some (T (Tl.mk ps)), none, none, none, none] _
    refine sxh_seq (sxh_setn (α := Tl Int) (rα := inferInstance) (f := "numbers") 0 hK c0 n2 rfl rfl (by show 1 < 1000; decide) (by show ("numbers" : Str) ∉ [("label" : Str)]; decide +kernel) fun Wo hW => htup Wo _ _ (by rw [hW.B]; exact hK) rfl fun fs2 => ?_)
    show SxH W F _ [(p, .ins (W.B.cl kd.cn) dx fs2)] [some (T (Oi.mk p kd.cn dx fs2 ((⟨"numbers", ⟨ns⟩⟩, ⟨"label", lb⟩, ()) : Fd (Tl Int) × Fd Str × Unit))), some (T lb), some o2, some (T (Tl.mk ps)), none, none, none, none] _
    refine sxh_seq (sxh_setn (α := Tl Ru) (rα := inferInstance) (f := "parts") 0 hK c0 n3 rfl rfl (by show 2 < 1000; decide) (by show ("parts" : Str) ∉ [("label" : Str), ("numbers" : Str)]; decide +kernel) fun Wo hW => ev_var rfl fun fs3 => ?_)
    show SxH W F _ [(p, .ins (W.B.cl kd.cn) dx fs3)] [some (T (Oi.mk p kd.cn dx fs3 ((⟨"parts", ⟨ps⟩⟩, ⟨"numbers", ⟨ns⟩⟩, ⟨"label", lb⟩, ()) : Fd (Tl Ru) × Fd (Tl Int) × Fd Str × Unit))), some (T lb), some o2, some (T (Tl.mk ps)), none, none, none, none] _
    refine sxh_seq (sxh_setn (α := Bool) (rα := inferInstance) (f := "ranked") 0 hK c0 n4 rfl rfl (by show 3 < 1000; decide) (by show ("ranked" : Str) ∉ [("label" : Str), ("numbers" : Str), ("parts" : Str)]; decide +kernel) fun Wo hW => ?_)
    have hBo : Wo.B = bs K A := hW.B.trans hB
    have hKo : Wo.B.K = K := congrArg Bs.K hBo
    apply ev_all hKo
    refine (evF_lcTF (fun _ => true) (fun r : Ru => r.rk) hKo (ev_var rfl ⟨by show ps.length ≤ 100000; omega, fun W' sb q hq => ⟨[4], rfl, ?_⟩, fun fs4 => ?_⟩)).k
    · have hB' : W'.B = bs K A := sb.B.trans hBo
      have hK' : W'.B.K = K := congrArg Bs.K hB'
      apply tj_name
      exact et_yes ⟨fun _ => ev_rranked hK' (ev_var rfl ⟨rfl, rfl⟩), fun h => (nomatch h)⟩
    have eall : ((List.filter (fun _ => true) ps).map fun r : Ru => r.rk).all id = ps.all Ru.rk := by
      rw [List.filter_eq_self.mpr (fun _ _ => rfl), List.all_map]
      rfl
    show SxH W F _ [(p, .ins (W.B.cl kd.cn) dx fs4)] [some (T (Oi.mk p kd.cn dx fs4 (ruB lb ns ps (((List.filter (fun _ => true) ps).map fun r : Ru => r.rk).all id)))), some (T lb), some o2, some (T (Tl.mk ps)), none, none, none, none] _
    rw [eall]
    refine sxh_seq (sxh_lookF (β := Str) (rβ := inferInstance) (FrzH.ownI (o := Oi.mk p kd.cn dx fs4 (ruB lb ns ps (ps.all Ru.rk))) (a := ruMk kd (ruB lb ns ps (ps.all Ru.rk))) (List.mem_singleton.mpr rfl) (fun W' H' e m hH hf => ru_hden hc' W' H' p dx fs4 _ e m hH hf ⟨_, _, _, _, rfl⟩) (.same (.same (.same (.same (.same (.same (.same .nil)))))))) ?_)
    refine EvF.imp (k := fun bs => bs = namesF (.mk kd lb ns ps (ps.all Ru.rk))) (evF_methW (β := Ru) (γ := Str) hB (by decide) (ev_var rfl ?_)) ?_
    · show ∃ P : PF Str, _ ∧ EvA W tNil _ fun ts => P _ (T (Ru.mk kd lb ns ps (ps.all Ru.rk)) :: ts)
      clear hend htup c0 n1 n2 n3 n4
      cases kd with
      | leaf => exact ⟨_, .inl (⟨rfl, rfl⟩), ea_nil ⟨_, rfl, rfl, rfl⟩⟩
      | rank => exact ⟨_, .inr (.inl (⟨rfl, rfl⟩)), ea_nil ⟨_, rfl, ⟨(by show RK.rank ≠ RK.leaf; decide), by show depRL ps + 1 ≤ 8; omega, ⟨hkk, hkds⟩, hln⟩, rfl⟩⟩
      | trim => exact ⟨_, .inr (.inr (.inl (⟨rfl, rfl⟩))), ea_nil ⟨_, rfl, ⟨(by show RK.trim ≠ RK.leaf; decide), by show depRL ps + 1 ≤ 8; omega, ⟨hkk, hkds⟩, hln⟩, rfl⟩⟩
      | weigh => exact ⟨_, .inr (.inr (.inr (⟨rfl, rfl⟩))), ea_nil ⟨_, rfl, ⟨(by show RK.weigh ≠ RK.leaf; decide), by show depRL ps + 1 ≤ 8; omega, ⟨hkk, hkds⟩, hln⟩, rfl⟩⟩
    rintro nms rfl
    generalize hnm : namesF (Ru.mk kd lb ns ps (ps.all Ru.rk)) = nms at hend hln ⊢
    show SxH W F _ [(p, .ins (W.B.cl kd.cn) dx fs4)] [some (T (Oi.mk p kd.cn dx fs4 (ruB lb ns ps (ps.all Ru.rk)))), some (T lb), some o2, some (T (Tl.mk ps)), none, some (T nms), none, none] _
    refine sxh_pure fun Wo hW => ?_
    have hBo : Wo.B = bs K A := hW.B.trans hB
    have hKo : Wo.B.K = K := congrArg Bs.K hBo
    refine sx_forI (ei_enum hKo (ev_var rfl ⟨fun i Γ' => dupG (nms.take i) (nms.drop i) = dupF nms ∧ ∃ o6 o7, Γ' = [some (T (Oi.mk p kd.cn dx fs4 (ruB lb ns ps (ps.all Ru.rk)))), some (T lb), some o2, some (T (Tl.mk ps)), none, some (T nms), o6, o7], ⟨rfl, none, none, rfl⟩, ?_, ?_⟩))
    · rintro i a Γ' ha ⟨hd, o6, o7, rfl⟩
      obtain ⟨nm, hnmi, rfl⟩ := enumF_get ha
      have hstep := dupG_step hnmi rfl
      rw [hd] at hstep
      refine ⟨[6] ++ [7], tj_tup2 hKo (tj_name (tj_name ?_))⟩
      refine sx_if ?_
      apply et_test
      refine ev_inS hKo ?_
      walk_at "g"
      refine ev_upto hKo ?_
      walk_at "g"
      refine ⟨by omega, ?_⟩
      rw [Int.toNat_natCast]
      refine ⟨fun h1 => ?_, fun h1 => ?_⟩
      · rw [if_pos (of_decide_eq_true h1)] at hstep
        rw [hstep] at hend
        obtain ⟨s1, s2, hxx⟩ := hend
        refine sx_raise (c := .DuplicateGauge) (Wx := fun cls d _ H => E cls d H) hBo rfl (hx_of (hW.err E x hw)) ?_
        exact ea_cons (ev_var rfl (ea_nil ⟨_, shStr_ok s1 s2, hxx⟩))
      · rw [if_neg (of_decide_eq_false h1)] at hstep
        exact sx_next ⟨hstep.symm, _, _, rfl⟩
    · rintro Γ' ⟨hd, o6, o7, rfl⟩
      rw [enumF_length, List.take_length, List.drop_length] at hd
      rw [← hd] at hend
      exact ⟨_, _, rfl, rfl, hend⟩
def P_Leaf_init (K : PySem.W.Frag) (A : Ad) : PI RuB := fun c k x ts => ∃ (lb : Str), c = .Leaf ∧ ts = [T lb] ∧ k (ruB lb [] [] true)
theorem ev_leaf {K : PySem.W.Frag} {mg : Str → Option Value} {A : Ad} (tx : Txt K mg A) {W : Wd} {Γ : Gam} {te : TE} {E : L2.St → XK} {k : Ru → Prop} (hB : W.B = bs K A) (hx : HX W Γ E fun _ => False) (h : EvK W te Γ fun w : Str => k (lfU w)) : EvK W (tMakeZ A.c_Leaf (spIn (bs K A) (P_Leaf_init K A)) E (tCons te tNil)) Γ k :=
  ev_make (ruMk .leaf) (fun b => ∃ lb ns ps rk, b = ruB lb ns ps rk) hB rfl hx (ru_hden (rcT_leaf tx)) (ea_cons (h.imp fun w q => ea_nil ⟨w, rfl, rfl, ⟨_, _, _, _, rfl⟩, q⟩))
theorem ok_Leaf_init (tx : Txt K mg A) : FnR P w K mg base (L2.CX P w) 13 A.f_Leaf_init (spIn (bs K A) (P_Leaf_init K A)) := by
  have G_Rule_init := ok_Rule_init (P := P) (w := w) (base := base) tx
  refine fnRX_of tx.d_Leaf_init sc_Leaf_init (fun vs H Q E h => ?_) (fun cdv Ar outer s H vs Q E hr h => ?_)
  · obtain ⟨W, F, p, dx, c, ws, ts, k, x, oF, nF, rfl, _, _, _, _, hd, ⟨lb, _, rfl, _⟩, _⟩ := h
    exact congrArg (· + 1) hd.length
  · refine ⟨_, (pss_one (ps_expr (pe_cinit (E := WE (fun cls d _ H => E cls d H)) tx.cli_Rule G_Rule_init (room hr) (passAt (takes_of rfl rfl rfl rfl)) tx.c_Rule (pa_cons (pv 0) (pa_cons (pv 1) (pa_cons (pe_tup pa_nil) (pa_cons (pe_tup pa_nil) pa_nil))))))), ?_⟩
    refine init_ok (N := ["self", "name"]) (fun W F p dx c ts k x hB hw hp => ?_) h
    have hK : W.B.K = K := congrArg Bs.K hB
    obtain ⟨lb, rfl, rfl, hk⟩ := hp
    show SxH W F _ [(p, .ins (W.B.cl .Leaf) dx [])] [some (T (Oi.mk p .Leaf dx [] ())), some (T lb)] _
    refine sxh_cinit rfl rfl hB (fun H' o w _ => hw H' o w) fun Wo hW => ?_
    refine ea_cons (ev_var rfl (ea_cons (ev_tupN (α := Int) (rα := inferInstance) (el_nil ⟨by decide, ea_cons (ev_tupN (α := Ru) (rα := inferInstance) (el_nil ⟨by decide, ea_nil ?_⟩))⟩))))
    exact ⟨.leaf, lb, [], [], rfl, .inl rfl, rcT_leaf tx, ⟨by decide, trivial, by decide, by decide, by show 1 ≤ 1000; decide⟩, fun fs => ⟨_, _, rfl, rfl, hk⟩⟩
def P_Rank_init (K : PySem.W.Frag) (A : Ad) : PI RuB := fun c k x ts => ∃ (a : Int) (ps : List Ru), c = .Rank ∧ ts = [T a, T (Tl.mk ps)] ∧ PsOk [RK.leaf, RK.rank, RK.trim, RK.weigh] ps ∧ MkR "rank" .rank (0 ≤ a ∧ a < ps.length) [a] ps (ps.all Ru.rk) (fun r => k (ruB r.lb r.ns r.ps r.rk)) x
theorem ok_Rank_init (tx : Txt K mg A) : FnR P w K mg base (L2.CX P w) 13 A.f_Rank_init (spSt 2 (spIn (bs K A) (P_Rank_init K A))) := by
  have G_BadRule_init := ok_BadRule_init (P := P) (w := w) (base := base) tx
  have G_Rule_init := ok_Rule_init (P := P) (w := w) (base := base) tx
  refine fnR_ofS cxUp tx.d_Rank_init sc_Rank_init (fun cdv Ar outer s H vs Q E hr h => ?_)
  · refine ⟨_, (pss_cons (ps_if (pt_not (pt_chain op_le op_lt pe_int (pv 1) (pe_callB (call_lenK K) (by rfl) tx.z_len PySem.boot_len (pa_cons (pv 2) pa_nil)))) (pss_one (ps_raise rfl (takes_of rfl rfl rfl rfl) (pmk_oexR tx.xo_BadRule tx.xi_BadRule tx.xt_BadRule G_BadRule_init (room hr) pass0 rfl tx.c_BadRule (pa_cons pe_str pa_nil)))) pss_nil)
        (pss_one (ps_expr (pe_cinit (E := WE (fun cls d _ H => E cls d H)) tx.cli_Rule G_Rule_init (room hr) (passAt (takes_of rfl rfl rfl rfl)) tx.c_Rule (pa_cons (pv 0) (pa_cons pe_str (pa_cons (pe_tup (pa_cons (pv 1) pa_nil)) (pa_cons (pv 2) pa_nil)))))))), ?_⟩
    refine init_ok (N := ["self", "place", "parts"]) (fun W F p dx c ts k x hB hw hp => ?_) h
    have hK : W.B.K = K := congrArg Bs.K hB
    obtain ⟨a, ps, rfl, rfl, ⟨hkds, hdep, hlen, hnms⟩, hbad, hok⟩ := hp
    show SxH W F _ [(p, .ins (W.B.cl .Rank) dx [])] [some (T (Oi.mk p .Rank dx [] ())), some (T a), some (T (Tl.mk ps))] _
    have raises : ∀ {R : PoH}, x ⟨.BadRule, [("kind", .s "rank")]⟩ → SxH W F (fun _ σ H => tMkO A.c_BadRule (spEr A.c_BadRule (shStr "kind")) [] (tCons (tC (.str "rank")) tNil) σ H fun cls d H' => E cls d H') [(p, .ins (W.B.cl .Rank) dx [])] [some (T (Oi.mk p .Rank dx [] ())), some (T a), some (T (Tl.mk ps))] R := fun hg => by
      refine sxh_pure fun W2 hW2 => ?_
      refine sx_raise (c := .BadRule) (Wx := fun cls d _ H => E cls d H) (hW2.B.trans hB) rfl (hx_of (hW2.err E x hw)) ?_
      exact ea_cons (ev_str (ea_nil ⟨_, shStr_ok (by decide +kernel) (by decide +kernel), hg⟩))
    refine sxh_seq (sxh_if fun Wo hW => ?_)
    have hBo : Wo.B = bs K A := hW.B.trans hB
    have hKo : Wo.B.K = K := congrArg Bs.K hBo
    refine et_not ?_
    apply et_test
    apply ev_chainP
    walk_at "g0"
    refine ev_var rfl ?_
    refine chg_in (ev_lenTl hKo (ev_var rfl rfl)) ?_
    have hd : (decide ((0 : Int) ≤ a) && decide (a < (ps.length : Int))) = decide (0 ≤ a ∧ a < ps.length) := by rw [Bool.decide_and]
    rw [hd]
    refine ⟨fun h1 => ?_, fun h1 => ?_⟩
    · exact raises (hbad fun hg => by rw [decide_eq_true hg] at h1; exact absurd h1 (by decide))
    have hg : 0 ≤ a ∧ a < ps.length := Classical.byContradiction fun hn => by rw [decide_eq_false hn] at h1; exact absurd h1 (by decide)
    refine sxh_next ?_
    have hok := hok hg
    rw [← namesF_any (kd := .rank) (lb := "rank") (ns := [a]) (rk := ps.all Ru.rk) (by decide)] at hok
    refine (sxh_cinit rfl rfl hB (fun H' o w _ => hw H' o w) fun W2 hW2 => ?_)
    refine ea_cons (ev_str (ea_cons (ev_tupN (α := Int) (rα := inferInstance) (el_cons (ev_var rfl (el_nil ⟨by show 1 ≤ 100000; decide, ea_cons (ev_var rfl (ea_nil ?_))⟩))))))
    refine ⟨.rank, "rank", [a], ps, rfl, .inl rfl, rcT_rank tx, ⟨by decide, hkds, hdep, hlen, by rw [namesF_any (by decide)]; exact hnms⟩, ?_⟩
    generalize dupF _ = q at hok ⊢
    cases q with
    | none => exact fun fs => ⟨_, _, rfl, rfl, hok⟩
    | some n => exact hok
def P_Rank_of : PT := fun rt xx ts => ∃ (a : Int) (ps : List Ru), ts = [T (Cv.mk .Rank), T a, T ps] ∧ (PsOk [RK.leaf, RK.rank, RK.trim, RK.weigh] ps ∧ MkR "rank" .rank (0 ≤ a ∧ a < ps.length) [a] ps (ps.all Ru.rk) (fun r => rt (T r)) xx)
theorem pc_Rank_of {rt : Ty → Prop} {xx : Xn → Prop} {a : Int} {ps : List Ru} (h : PsOk [RK.leaf, RK.rank, RK.trim, RK.weigh] ps ∧ MkR "rank" .rank (0 ≤ a ∧ a < ps.length) [a] ps (ps.all Ru.rk) (fun r => rt (T r)) xx) : P_Rank_of rt xx [T (Cv.mk .Rank), T a, T ps] := ⟨_, _, rfl, h⟩
theorem ok_Rank_of (tx : Txt K mg A) : FnR P w K mg base (L2.CX P w) 15 A.f_Rank_of (spG (bs K A) P_Rank_of) := by
  have G_Rank_init := ok_Rank_init (P := P) (w := w) (base := base) tx
  refine fnRX_of tx.d_Rank_of sc_Rank_of (len_ok (n := 3) fun rt xx ts hp => by obtain ⟨_, _, rfl, _⟩ := hp; rfl) (fun cdv Ar outer s H vs Q E hr h => ⟨_, (pss_one (ps_ret (pe_makeV2 (i := 0) (E := WE (fun cls d _ H => E cls d H)) tx.m_Rank G_Rank_init (room hr) (passAt (takes_of rfl rfl rfl rfl)) rfl (Or.inl rfl) (pa_cons (pv 1) (pa_starK K (pv 2) pa_nil))))),
      body_ok (N := ["cls", "place", "parts"]) (fun W ts rt xx hB ho hw hp => ?_) h⟩)
  have hK : W.B.K = K := congrArg Bs.K hB
  obtain ⟨a, ps, rfl, hp⟩ := hp
  show Sx W _ [some (T (Cv.mk .Rank)), some (T a), some (T ps)] _
  obtain ⟨hps, hbad, hok⟩ := hp
  refine sx_ret (α := Ru) (rα := inferInstance) (ev_makeV hB rfl rfl ?_)
  refine ev_makeS (γ := Ru) (rγ := inferInstance) (ruMk .rank) (fun b => ∃ lb ns ps rk, b = ruB lb ns ps rk) hB rfl (hx_of hw) (ru_hden (rcT_rank tx)) ?_
  refine es_cons (ev_var rfl (es_zero (el_star hK (ev_var rfl (el_nil ⟨?_, ?_⟩)))))
  · rw [List.append_nil]
    exact Nat.le_trans hps.len (by decide)
  rw [List.append_nil]
  refine ⟨a, ps, rfl, rfl, hps, hbad, fun hg => ?_⟩
  have hok := hok hg
  generalize dupF _ = q at hok ⊢
  cases q with
  | none => exact ⟨⟨_, _, _, _, rfl⟩, hok⟩
  | some n => exact hok
def P_Trim_init (K : PySem.W.Frag) (A : Ad) : PI RuB := fun c k x ts => ∃ (a : Int) (ps : List Ru), c = .Trim ∧ ts = [T a, T (Tl.mk ps)] ∧ PsOk [RK.leaf, RK.rank, RK.trim, RK.weigh] ps ∧ MkR "trim" .trim (0 ≤ a ∧ 2 * a < ps.length) [a] ps false (fun r => k (ruB r.lb r.ns r.ps r.rk)) x
theorem ok_Trim_init (tx : Txt K mg A) : FnR P w K mg base (L2.CX P w) 13 A.f_Trim_init (spSt 2 (spIn (bs K A) (P_Trim_init K A))) := by
  have G_BadRule_init := ok_BadRule_init (P := P) (w := w) (base := base) tx
  have G_Rule_init := ok_Rule_init (P := P) (w := w) (base := base) tx
  refine fnR_ofS cxUp tx.d_Trim_init sc_Trim_init (fun cdv Ar outer s H vs Q E hr h => ?_)
  · refine ⟨_, (pss_cons (ps_if (PW.pt (pw_or (pt_cmpR op_lt (pv 1) pe_int (nomark _)) (pw_or1 (pt_cmpR op_ge (pe_op op_mul pe_int (pv 1)) (pe_callB (call_lenK K) (by rfl) tx.z_len PySem.boot_len (pa_cons (pv 2) pa_nil)) (nomark _))))) (pss_one (ps_raise rfl (takes_of rfl rfl rfl rfl) (pmk_oexR tx.xo_BadRule tx.xi_BadRule tx.xt_BadRule G_BadRule_init (room hr) pass0 rfl tx.c_BadRule (pa_cons pe_str pa_nil)))) pss_nil)
        (pss_cons (ps_expr (pe_cinit (E := WE (fun cls d _ H => E cls d H)) tx.cli_Rule G_Rule_init (room hr) (passAt (takes_of rfl rfl rfl rfl)) tx.c_Rule (pa_cons (pv 0) (pa_cons pe_str (pa_cons (pe_tup (pa_cons (pv 1) pa_nil)) (pa_cons (pv 2) pa_nil))))))
        (pss_one (ps_fldK K (pv 0) pe_bl rfl)))), ?_⟩
    refine init_ok (N := ["self", "cut", "parts"]) (fun W F p dx c ts k x hB hw hp => ?_) h
    have hK : W.B.K = K := congrArg Bs.K hB
    obtain ⟨a, ps, rfl, rfl, ⟨hkds, hdep, hlen, hnms⟩, hbad, hok⟩ := hp
    show SxH W F _ [(p, .ins (W.B.cl .Trim) dx [])] [some (T (Oi.mk p .Trim dx [] ())), some (T a), some (T (Tl.mk ps))] _
    have raises : ∀ {R : PoH}, x ⟨.BadRule, [("kind", .s "trim")]⟩ → SxH W F (fun _ σ H => tMkO A.c_BadRule (spEr A.c_BadRule (shStr "kind")) [] (tCons (tC (.str "trim")) tNil) σ H fun cls d H' => E cls d H') [(p, .ins (W.B.cl .Trim) dx [])] [some (T (Oi.mk p .Trim dx [] ())), some (T a), some (T (Tl.mk ps))] R := fun hg => by
      refine sxh_pure fun W2 hW2 => ?_
      refine sx_raise (c := .BadRule) (Wx := fun cls d _ H => E cls d H) (hW2.B.trans hB) rfl (hx_of (hW2.err E x hw)) ?_
      exact ea_cons (ev_str (ea_nil ⟨_, shStr_ok (by decide +kernel) (by decide +kernel), hg⟩))
    refine sxh_seq (sxh_if fun Wo hW => ?_)
    have hBo : Wo.B = bs K A := hW.B.trans hB
    have hKo : Wo.B.K = K := congrArg Bs.K hBo
    refine et_or ?_
    apply et_test
    walk_at "g"
    refine ⟨fun h1 => ⟨fun _ => raises (hbad fun h => absurd (of_decide_eq_true h1) (by omega)), fun h => (nomatch h)⟩, fun h1 => ?_⟩
    apply et_test
    walk_at "g0"
    walk_at "g0"
    walk_at "g0"
    walk_at "g0"
    refine ⟨.inl ⟨by decide, by decide⟩, ev_lenTl hKo (ev_var rfl ⟨fun h2 => ?_, fun h2 => ?_⟩)⟩
    · have h2 : (ps.length : Int) ≤ 2 * a := of_decide_eq_true h2
      exact raises (hbad fun h => absurd h2 (by omega))
    have hg : 0 ≤ a ∧ 2 * a < ps.length := by
      have h1 := of_decide_eq_false h1
      have h2 : ¬ (ps.length : Int) ≤ 2 * a := of_decide_eq_false h2
      omega
    refine sxh_next ?_
    have hok := hok hg
    rw [← namesF_any (kd := .trim) (lb := "trim") (ns := [a]) (rk := ps.all Ru.rk) (by decide)] at hok
    refine sxh_seq (sxh_cinit rfl rfl hB (fun H' o w _ => hw H' o w) fun W2 hW2 => ?_)
    refine ea_cons (ev_str (ea_cons (ev_tupN (α := Int) (rα := inferInstance) (el_cons (ev_var rfl (el_nil ⟨by show 1 ≤ 100000; decide, ea_cons (ev_var rfl (ea_nil ?_))⟩))))))
    refine ⟨.trim, "trim", [a], ps, rfl, .inl rfl, rcT_trim tx, ⟨by decide, hkds, hdep, hlen, by rw [namesF_any (by decide)]; exact hnms⟩, ?_⟩
    generalize dupF _ = q at hok ⊢
    cases q with
    | none => 
      intro fs
      obtain ⟨c0, n1, n2, n3, n4⟩ := (rcT_trim tx).use hB hK
      refine sxh_setl (α := Bool) (rα := inferInstance) (f := "ranked") 0 hK c0 n4 rfl rfl (by show 3 < 999; decide) (by show ("ranked" : Str) ∉ [("label" : Str), ("numbers" : Str), ("parts" : Str)]; decide +kernel) fun W3 hW3 => ev_bl fun fs2 => ?_
      exact ⟨_, _, rfl, rfl, hok⟩
    | some n => exact hok
def P_Trim_of : PT := fun rt xx ts => ∃ (a : Int) (ps : List Ru), ts = [T (Cv.mk .Trim), T a, T ps] ∧ (PsOk [RK.leaf, RK.rank, RK.trim, RK.weigh] ps ∧ MkR "trim" .trim (0 ≤ a ∧ 2 * a < ps.length) [a] ps false (fun r => rt (T r)) xx)
theorem pc_Trim_of {rt : Ty → Prop} {xx : Xn → Prop} {a : Int} {ps : List Ru} (h : PsOk [RK.leaf, RK.rank, RK.trim, RK.weigh] ps ∧ MkR "trim" .trim (0 ≤ a ∧ 2 * a < ps.length) [a] ps false (fun r => rt (T r)) xx) : P_Trim_of rt xx [T (Cv.mk .Trim), T a, T ps] := ⟨_, _, rfl, h⟩
theorem ok_Trim_of (tx : Txt K mg A) : FnR P w K mg base (L2.CX P w) 15 A.f_Trim_of (spG (bs K A) P_Trim_of) := by
  have G_Trim_init := ok_Trim_init (P := P) (w := w) (base := base) tx
  refine fnRX_of tx.d_Trim_of sc_Trim_of (len_ok (n := 3) fun rt xx ts hp => by obtain ⟨_, _, rfl, _⟩ := hp; rfl) (fun cdv Ar outer s H vs Q E hr h => ⟨_, (pss_one (ps_ret (pe_makeV2 (i := 0) (E := WE (fun cls d _ H => E cls d H)) tx.m_Trim G_Trim_init (room hr) (passAt (takes_of rfl rfl rfl rfl)) rfl (Or.inl rfl) (pa_cons (pv 1) (pa_starK K (pv 2) pa_nil))))),
      body_ok (N := ["cls", "cut", "parts"]) (fun W ts rt xx hB ho hw hp => ?_) h⟩)
  have hK : W.B.K = K := congrArg Bs.K hB
  obtain ⟨a, ps, rfl, hp⟩ := hp
  show Sx W _ [some (T (Cv.mk .Trim)), some (T a), some (T ps)] _
  obtain ⟨hps, hbad, hok⟩ := hp
  refine sx_ret (α := Ru) (rα := inferInstance) (ev_makeV hB rfl rfl ?_)
  refine ev_makeS (γ := Ru) (rγ := inferInstance) (ruMk .trim) (fun b => ∃ lb ns ps rk, b = ruB lb ns ps rk) hB rfl (hx_of hw) (ru_hden (rcT_trim tx)) ?_
  refine es_cons (ev_var rfl (es_zero (el_star hK (ev_var rfl (el_nil ⟨?_, ?_⟩)))))
  · rw [List.append_nil]
    exact Nat.le_trans hps.len (by decide)
  rw [List.append_nil]
  refine ⟨a, ps, rfl, rfl, hps, hbad, fun hg => ?_⟩
  have hok := hok hg
  generalize dupF _ = q at hok ⊢
  cases q with
  | none => exact ⟨⟨_, _, _, _, rfl⟩, hok⟩
  | some n => exact hok
def P_Weigh_init (K : PySem.W.Frag) (A : Ad) : PI RuB := fun c k x ts => ∃ (a : List Int) (ps : List Ru), c = .Weigh ∧ ts = [T a, T (Tl.mk ps)] ∧ PsOk [RK.leaf, RK.rank, RK.trim, RK.weigh] ps ∧ MkR "weigh" .weigh (a.length = ps.length ∧ (∀ w ∈ a, 0 ≤ w) ∧ a.sum ≠ 0) a ps (ps.all Ru.rk) (fun r => k (ruB r.lb r.ns r.ps r.rk)) x
theorem ok_Weigh_init (tx : Txt K mg A) : FnR P w K mg base (L2.CX P w) 13 A.f_Weigh_init (spSt 2 (spIn (bs K A) (P_Weigh_init K A))) := by
  have G_BadRule_init := ok_BadRule_init (P := P) (w := w) (base := base) tx
  have G_Rule_init := ok_Rule_init (P := P) (w := w) (base := base) tx
  refine fnR_ofS cxUp tx.d_Weigh_init sc_Weigh_init (fun cdv Ar outer s H vs Q E hr h => ?_)
  · refine ⟨_, (pss_cons (ps_if (PW.pt (pw_or (pt_cmpR (op_neDK K (huD hr)) (pe_callB (call_lenK K) (by rfl) tx.z_len PySem.boot_len (pa_cons (pv 1) pa_nil)) (pe_callB (call_lenK K) (by rfl) tx.z_len PySem.boot_len (pa_cons (pv 2) pa_nil)) (nomark _)) (pw_or (pt_val (pe_callB (cr_any rfl) (by rfl) tx.z_any (by decide +kernel) (pa_cons (pe_lc (own := [("weight", 3)]) rfl sc_Weigh_init.nd (pi_listK K (pv 1)) (blkOk_by (N := ["self", "weights", "parts", "weight"]) (sc := defScope s_Weigh_init) (by decide +kernel)) (fun _ _ _ _ _ => (pg_name (i := 3) sc_Weigh_init.nd rfl (Or.inl rfl))) (fun _ _ _ _ _ => pts_nil) (fun _ _ _ _ _ => (pe_cmpR op_lt (pv 3) pe_int (nomark _)))) pa_nil))) (pw_or1 (pt_cmpR (op_eqDK K (huD hr)) (pe_callB (cr_sum rfl) (by rfl) tx.z_sum (by decide +kernel) (pa_cons (pv 1) pa_nil)) pe_int (nomark _)))))) (pss_one (ps_raise rfl (takes_of rfl rfl rfl rfl) (pmk_oexR tx.xo_BadRule tx.xi_BadRule tx.xt_BadRule G_BadRule_init (room hr) pass0 rfl tx.c_BadRule (pa_cons pe_str pa_nil)))) pss_nil)
        (pss_one (ps_expr (pe_cinit (E := WE (fun cls d _ H => E cls d H)) tx.cli_Rule G_Rule_init (room hr) (passAt (takes_of rfl rfl rfl rfl)) tx.c_Rule (pa_cons (pv 0) (pa_cons pe_str (pa_cons (pv 1) (pa_cons (pv 2) pa_nil)))))))), ?_⟩
    refine init_ok (N := ["self", "weights", "parts", "weight"]) (fun W F p dx c ts k x hB hw hp => ?_) h
    have hK : W.B.K = K := congrArg Bs.K hB
    obtain ⟨a, ps, rfl, rfl, ⟨hkds, hdep, hlen, hnms⟩, hbad, hok⟩ := hp
    show SxH W F _ [(p, .ins (W.B.cl .Weigh) dx [])] [some (T (Oi.mk p .Weigh dx [] ())), some (T a), some (T (Tl.mk ps)), none] _
    have raises : ∀ {R : PoH}, x ⟨.BadRule, [("kind", .s "weigh")]⟩ → SxH W F (fun _ σ H => tMkO A.c_BadRule (spEr A.c_BadRule (shStr "kind")) [] (tCons (tC (.str "weigh")) tNil) σ H fun cls d H' => E cls d H') [(p, .ins (W.B.cl .Weigh) dx [])] [some (T (Oi.mk p .Weigh dx [] ())), some (T a), some (T (Tl.mk ps)), none] R := fun hg => by
      refine sxh_pure fun W2 hW2 => ?_
      refine sx_raise (c := .BadRule) (Wx := fun cls d _ H => E cls d H) (hW2.B.trans hB) rfl (hx_of (hW2.err E x hw)) ?_
      exact ea_cons (ev_str (ea_nil ⟨_, shStr_ok (by decide +kernel) (by decide +kernel), hg⟩))
    refine sxh_seq (sxh_if fun Wo hW => ?_)
    have hBo : Wo.B = bs K A := hW.B.trans hB
    have hKo : Wo.B.K = K := congrArg Bs.K hBo
    refine et_or (et_test ?_)
    apply ev_neG hKo
    refine ev_len hKo (ev_var rfl (ev_lenTl hKo (ev_var rfl (neg_in (by decide) trivial trivial ?_))))
    refine ⟨fun h1 => ⟨fun _ => raises (hbad fun h => by simp [h.1] at h1), fun h => (nomatch h)⟩, fun h1 => ?_⟩
    have e1 : a.length = ps.length := by
      have : (a.length : Int) = ps.length := by simpa using h1
      omega
    refine et_or (et_test ?_)
    apply ev_any hKo
    refine (evF_lcF (fun _ => true) (fun w : Int => decide (w < 0)) hKo (ev_var rfl ⟨by omega, fun W' sb w hw => ⟨[3], rfl, ?_⟩, ?_⟩)).k
    · apply tj_name
      refine et_yes ⟨fun _ => ?_, fun h => (nomatch h)⟩
      walk_at "g"
      exact ⟨rfl, rfl⟩
    rw [filtT, List.any_map]
    refine ⟨fun h2 => ⟨fun _ => raises (hbad fun h => ?_), fun h => (nomatch h)⟩, fun h2 => ?_⟩
    · obtain ⟨w, hw, hn⟩ := List.any_eq_true.mp h2
      have := h.2.1 w hw
      exact absurd (of_decide_eq_true hn) (by omega)
    have e2 : ∀ w ∈ a, 0 ≤ w := fun w hw => Classical.byContradiction fun hn => by
      have := List.any_eq_false.mp h2 w hw
      exact this (decide_eq_true (by omega))
    refine et_test ?_
    walk_at "g"
    refine ⟨fun h3 => raises (hbad fun h => h.2.2 (by simpa using h3)), fun h3 => ?_⟩
    have hg : a.length = ps.length ∧ (∀ w ∈ a, 0 ≤ w) ∧ a.sum ≠ 0 := ⟨e1, e2, by simpa using h3⟩
    refine sxh_next ?_
    have hok := hok hg
    rw [← namesF_any (kd := .weigh) (lb := "weigh") (ns := a) (rk := ps.all Ru.rk) (by decide)] at hok
    refine (sxh_cinit rfl rfl hB (fun H' o w _ => hw H' o w) fun W2 hW2 => ?_)
    refine ea_cons (ev_str (ea_cons (ev_var rfl (ea_cons (ev_var rfl (ea_nil ?_))))))
    refine ⟨.weigh, "weigh", a, ps, rfl, .inr rfl, rcT_weigh tx, ⟨by decide, hkds, hdep, hlen, by rw [namesF_any (by decide)]; exact hnms⟩, ?_⟩
    generalize dupF _ = q at hok ⊢
    cases q with
    | none => exact fun fs => ⟨_, _, rfl, rfl, hok⟩
    | some n => exact hok
def P_Weigh_of : PT := fun rt xx ts => ∃ (a : List Int) (ps : List Ru), ts = [T (Cv.mk .Weigh), T a, T ps] ∧ (PsOk [RK.leaf, RK.rank, RK.trim, RK.weigh] ps ∧ MkR "weigh" .weigh (a.length = ps.length ∧ (∀ w ∈ a, 0 ≤ w) ∧ a.sum ≠ 0) a ps (ps.all Ru.rk) (fun r => rt (T r)) xx)
theorem pc_Weigh_of {rt : Ty → Prop} {xx : Xn → Prop} {a : List Int} {ps : List Ru} (h : PsOk [RK.leaf, RK.rank, RK.trim, RK.weigh] ps ∧ MkR "weigh" .weigh (a.length = ps.length ∧ (∀ w ∈ a, 0 ≤ w) ∧ a.sum ≠ 0) a ps (ps.all Ru.rk) (fun r => rt (T r)) xx) : P_Weigh_of rt xx [T (Cv.mk .Weigh), T a, T ps] := ⟨_, _, rfl, h⟩
theorem ok_Weigh_of (tx : Txt K mg A) : FnR P w K mg base (L2.CX P w) 15 A.f_Weigh_of (spG (bs K A) P_Weigh_of) := by
  have G_Weigh_init := ok_Weigh_init (P := P) (w := w) (base := base) tx
  refine fnRX_of tx.d_Weigh_of sc_Weigh_of (len_ok (n := 3) fun rt xx ts hp => by obtain ⟨_, _, rfl, _⟩ := hp; rfl) (fun cdv Ar outer s H vs Q E hr h => ⟨_, (pss_one (ps_ret (pe_makeV2 (i := 0) (E := WE (fun cls d _ H => E cls d H)) tx.m_Weigh G_Weigh_init (room hr) (passAt (takes_of rfl rfl rfl rfl)) rfl (Or.inl rfl) (pa_cons (pv 1) (pa_starK K (pv 2) pa_nil))))),
      body_ok (N := ["cls", "weights", "parts"]) (fun W ts rt xx hB ho hw hp => ?_) h⟩)
  have hK : W.B.K = K := congrArg Bs.K hB
  obtain ⟨a, ps, rfl, hp⟩ := hp
  show Sx W _ [some (T (Cv.mk .Weigh)), some (T a), some (T ps)] _
  obtain ⟨hps, hbad, hok⟩ := hp
  refine sx_ret (α := Ru) (rα := inferInstance) (ev_makeV hB rfl rfl ?_)
  refine ev_makeS (γ := Ru) (rγ := inferInstance) (ruMk .weigh) (fun b => ∃ lb ns ps rk, b = ruB lb ns ps rk) hB rfl (hx_of hw) (ru_hden (rcT_weigh tx)) ?_
  refine es_cons (ev_var rfl (es_zero (el_star hK (ev_var rfl (el_nil ⟨?_, ?_⟩)))))
  · rw [List.append_nil]
    exact Nat.le_trans hps.len (by decide)
  rw [List.append_nil]
  refine ⟨a, ps, rfl, rfl, hps, hbad, fun hg => ?_⟩
  have hok := hok hg
  generalize dupF _ = q at hok ⊢
  cases q with
  | none => exact ⟨⟨_, _, _, _, rfl⟩, hok⟩
  | some n => exact hok
def P_Rank_least : PT := fun rt xx ts => ∃ (ps : List Ru), ts = [T (Cv.mk .Rank), T (Tl.mk ps)] ∧ PsOk [RK.leaf, RK.rank, RK.trim, RK.weigh] ps ∧ MkR "rank" .rank (0 ≤ (0 : Int) ∧ (0 : Int) < ps.length) [(0 : Int)] ps (ps.all Ru.rk) (fun r => rt (T r)) xx
theorem ok_Rank_least (tx : Txt K mg A) : FnR P w K mg base (L2.CX P w) 15 A.f_Rank_least (spSt 1 (spG (bs K A) P_Rank_least)) := by
  have G_Rank_init := ok_Rank_init (P := P) (w := w) (base := base) tx
  refine fnR_ofS cxUp tx.d_Rank_least sc_Rank_least (fun cdv Ar outer s H vs Q E hr h => ?_)
  · refine ⟨_, (pss_one (ps_ret (pe_makeV2 (i := 0) (E := WE (fun cls d _ H => E cls d H)) tx.m_Rank G_Rank_init (room hr) (passAt (takes_of rfl rfl rfl rfl)) rfl (Or.inl rfl) (pa_cons pe_int (pa_starK K (pv 1) pa_nil))))), ?_⟩
    refine body_ok (N := ["cls", "parts"]) (fun W ts rt xx hB ho hw hp => ?_) h
    have hK : W.B.K = K := congrArg Bs.K hB
    obtain ⟨ps, rfl, hps, hbad, hok⟩ := hp
    show Sx W _ [some (T (Cv.mk .Rank)), some (T (Tl.mk ps))] _
    have hpl := hps.len
    refine sx_ret (α := Ru) (rα := inferInstance) (ev_makeV hB rfl rfl ?_)
    refine ev_makeS (γ := Ru) (rγ := inferInstance) (ruMk .rank) (fun b => ∃ lb ns ps rk, b = ruB lb ns ps rk) hB rfl (hx_of hw) (ru_hden (rcT_rank tx)) ?_
    refine es_cons (β := Int) (rβ := inferInstance) ?_
    walk_at "g0"
    refine es_zero (el_starTl hK (ev_var rfl (el_nil ⟨?_, ?_⟩)))
    · rw [List.append_nil]
      exact Nat.le_trans hps.len (by decide)
    rw [List.append_nil]
    refine ⟨_, ps, rfl, rfl, hps, hbad, fun hg => ?_⟩
    have hok := hok hg
    generalize dupF _ = q at hok ⊢
    cases q with
    | none => exact ⟨⟨_, _, _, _, rfl⟩, hok⟩
    | some n => exact hok
def P_Rank_greatest : PT := fun rt xx ts => ∃ (ps : List Ru), ts = [T (Cv.mk .Rank), T (Tl.mk ps)] ∧ PsOk [RK.leaf, RK.rank, RK.trim, RK.weigh] ps ∧ MkR "rank" .rank (0 ≤ ((ps.length : Int) - 1) ∧ ((ps.length : Int) - 1) < ps.length) [((ps.length : Int) - 1)] ps (ps.all Ru.rk) (fun r => rt (T r)) xx
theorem ok_Rank_greatest (tx : Txt K mg A) : FnR P w K mg base (L2.CX P w) 15 A.f_Rank_greatest (spSt 1 (spG (bs K A) P_Rank_greatest)) := by
  have G_Rank_init := ok_Rank_init (P := P) (w := w) (base := base) tx
  refine fnR_ofS cxUp tx.d_Rank_greatest sc_Rank_greatest (fun cdv Ar outer s H vs Q E hr h => ?_)
  · refine ⟨_, (pss_one (ps_ret (pe_makeV2 (i := 0) (E := WE (fun cls d _ H => E cls d H)) tx.m_Rank G_Rank_init (room hr) (passAt (takes_of rfl rfl rfl rfl)) rfl (Or.inl rfl) (pa_cons (pe_op op_sub (pe_callB (call_lenK K) (by rfl) tx.z_len PySem.boot_len (pa_cons (pv 1) pa_nil)) pe_int) (pa_starK K (pv 1) pa_nil))))), ?_⟩
    refine body_ok (N := ["cls", "parts"]) (fun W ts rt xx hB ho hw hp => ?_) h
    have hK : W.B.K = K := congrArg Bs.K hB
    obtain ⟨ps, rfl, hps, hbad, hok⟩ := hp
    show Sx W _ [some (T (Cv.mk .Rank)), some (T (Tl.mk ps))] _
    have hpl := hps.len
    refine sx_ret (α := Ru) (rα := inferInstance) (ev_makeV hB rfl rfl ?_)
    refine ev_makeS (γ := Ru) (rγ := inferInstance) (ruMk .rank) (fun b => ∃ lb ns ps rk, b = ruB lb ns ps rk) hB rfl (hx_of hw) (ru_hden (rcT_rank tx)) ?_
    refine es_cons (β := Int) (rβ := inferInstance) ?_
    walk_at "g0"
    refine ev_lenTl hK (ev_var rfl ?_)
    walk_at "g"
    refine es_zero (el_starTl hK (ev_var rfl (el_nil ⟨?_, ?_⟩)))
    · rw [List.append_nil]
      exact Nat.le_trans hps.len (by decide)
    rw [List.append_nil]
    refine ⟨_, ps, rfl, rfl, hps, hbad, fun hg => ?_⟩
    have hok := hok hg
    generalize dupF _ = q at hok ⊢
    cases q with
    | none => exact ⟨⟨_, _, _, _, rfl⟩, hok⟩
    | some n => exact hok
def P_Rank_median : PT := fun rt xx ts => ∃ (ps : List Ru), ts = [T (Cv.mk .Rank), T (Tl.mk ps)] ∧ PsOk [RK.leaf, RK.rank, RK.trim, RK.weigh] ps ∧ MkR "rank" .rank (0 ≤ (((ps.length : Int) - 1) / 2) ∧ (((ps.length : Int) - 1) / 2) < ps.length) [(((ps.length : Int) - 1) / 2)] ps (ps.all Ru.rk) (fun r => rt (T r)) xx
theorem ok_Rank_median (tx : Txt K mg A) : FnR P w K mg base (L2.CX P w) 15 A.f_Rank_median (spSt 1 (spG (bs K A) P_Rank_median)) := by
  have G_Rank_init := ok_Rank_init (P := P) (w := w) (base := base) tx
  refine fnR_ofS cxUp tx.d_Rank_median sc_Rank_median (fun cdv Ar outer s H vs Q E hr h => ?_)
  · refine ⟨_, (pss_one (ps_ret (pe_makeV2 (i := 0) (E := WE (fun cls d _ H => E cls d H)) tx.m_Rank G_Rank_init (room hr) (passAt (takes_of rfl rfl rfl rfl)) rfl (Or.inl rfl) (pa_cons (pe_op op_fdiv (pe_op op_sub (pe_callB (call_lenK K) (by rfl) tx.z_len PySem.boot_len (pa_cons (pv 1) pa_nil)) pe_int) pe_int) (pa_starK K (pv 1) pa_nil))))), ?_⟩
    refine body_ok (N := ["cls", "parts"]) (fun W ts rt xx hB ho hw hp => ?_) h
    have hK : W.B.K = K := congrArg Bs.K hB
    obtain ⟨ps, rfl, hps, hbad, hok⟩ := hp
    show Sx W _ [some (T (Cv.mk .Rank)), some (T (Tl.mk ps))] _
    have hpl := hps.len
    refine sx_ret (α := Ru) (rα := inferInstance) (ev_makeV hB rfl rfl ?_)
    refine ev_makeS (γ := Ru) (rγ := inferInstance) (ruMk .rank) (fun b => ∃ lb ns ps rk, b = ruB lb ns ps rk) hB rfl (hx_of hw) (ru_hden (rcT_rank tx)) ?_
    refine es_cons (β := Int) (rβ := inferInstance) ?_
    walk_at "g0"
    walk_at "g0"
    refine ev_lenTl hK (ev_var rfl ?_)
    walk_at "g"
    refine es_zero (el_starTl hK (ev_var rfl (el_nil ⟨?_, ?_⟩)))
    · rw [List.append_nil]
      exact Nat.le_trans hps.len (by decide)
    rw [List.append_nil]
    refine ⟨_, ps, rfl, rfl, hps, hbad, fun hg => ?_⟩
    have hok := hok hg
    generalize dupF _ = q at hok ⊢
    cases q with
    | none => exact ⟨⟨_, _, _, _, rfl⟩, hok⟩
    | some n => exact hok
theorem evF_namesT {K : PySem.W.Frag} {A : Ad} {W : Wd} {Γ : Gam} {te : TE} {k : List Str → Prop} (hB : W.B = bs K A)
    (h : EvK W te Γ fun r : Ru => depR r ≤ 8 ∧ kdsR [.leaf, .rank, .trim, .weigh] r ∧ (namesF r).length ≤ 1000 ∧ k (namesF r)) :
    EvF W (tMethV "names" (fun C sp => (C = A.c_Leaf ∧ sp = spFr (bs K A) P_Leaf_names) ∨ (C = A.c_Rank ∧ sp = spFr (bs K A) (P_Rule_names 8)) ∨ (C = A.c_Trim ∧ sp = spFr (bs K A) (P_Rule_names 8)) ∨ (C = A.c_Weigh ∧ sp = spFr (bs K A) (P_Rule_names 8))) (fun _ => E0) te tNil) Γ k :=
  evF_methW (β := Ru) (γ := Str) hB (by decide) (h.imp fun r ⟨hd, hks, hl, q⟩ => by
    show ∃ P : PF Str, _ ∧ EvA W tNil _ fun ts => P _ (T r :: ts)
    cases hk : r.k with
    | leaf => exact ⟨_, .inl ⟨kn_ru hk, rfl⟩, ea_nil ⟨_, rfl, hk, q⟩⟩
    | rank => exact ⟨_, .inr (.inl ⟨kn_ru hk, rfl⟩), ea_nil ⟨_, rfl, ⟨by rw [hk]; decide, hd, hks, hl⟩, q⟩⟩
    | trim => exact ⟨_, .inr (.inr (.inl ⟨kn_ru hk, rfl⟩)), ea_nil ⟨_, rfl, ⟨by rw [hk]; decide, hd, hks, hl⟩, q⟩⟩
    | weigh => exact ⟨_, .inr (.inr (.inr ⟨kn_ru hk, rfl⟩)), ea_nil ⟨_, rfl, ⟨by rw [hk]; decide, hd, hks, hl⟩, q⟩⟩)
def P_made : PT := fun rt xx ts => ∃ (s : Int) (o : G.Ty) (lbl : Str) (good : Prop) (ws : List Str), ts = [T s, o, T ws] ∧ ((∀ w ∈ ws, (reprText w).length ≤ 3000 ∧ w.length ≤ 3000) ∧ ws.length ≤ 100 ∧
  ((s = 0 ∧ lbl = "rank" ∧ ∃ a : Int, o = T a ∧ (good ↔ (0 ≤ a ∧ a < ws.length))) ∨ (s = 1 ∧ lbl = "trim" ∧ ∃ a : Int, o = T a ∧ (good ↔ (0 ≤ a ∧ 2 * a < ws.length))) ∨ (s = 2 ∧ lbl = "weigh" ∧ ∃ ns : List Int, o = T ns ∧ (good ↔ (ns.length = ws.length ∧ (∀ w ∈ ns, 0 ≤ w) ∧ ns.sum ≠ 0)))) ∧
  (¬ good → rt (T (Li3.mk lbl true false))) ∧ (good → match dupF ws with | none => rt (T ws) | some n => rt (T (Li3.mk n true false))))
theorem dupG_mem {seen l : List Str} {n : Str} (h : dupG seen l = some n) : n ∈ l := by
  induction l generalizing seen with
  | nil => cases h
  | cons a r ih =>
    unfold dupG at h
    by_cases e : a ∈ seen
    · rw [if_pos e] at h
      cases h
      exact List.mem_cons_self
    · rw [if_neg e] at h
      exact List.mem_cons_of_mem _ (ih h)
/-- made of leaves -/
theorem mkr_lf {lbl : Str} {kd : RK} {good : Prop} {ns : List Int} {ws : List Str} {rk : Bool} {ok : Ru → Prop} {xx : Xn → Prop} (hw : ∀ w ∈ ws, (reprText w).length ≤ 3000 ∧ w.length ≤ 3000) (h1 : ¬ good → xx ⟨.BadRule, [("kind", .s lbl)]⟩)
    (h2 : good → dupF ws = none → ok (.mk kd lbl ns (ws.map lfU) rk)) (h3 : good → ∀ n, dupF ws = some n → xx ⟨.DuplicateGauge, [("name", .s n)]⟩) : MkR lbl kd good ns (ws.map lfU) rk ok xx :=
  ⟨h1, fun hg => by
    rw [lf_names]
    cases e : dupF ws with
    | none => exact h2 hg e
    | some n => exact ⟨(hw n (dupG_mem e)).1, (hw n (dupG_mem e)).2, h3 hg n e⟩⟩
theorem lf_node {kd : RK} {lb : Str} {ns : List Int} {ws : List Str} {rk : Bool} (hk : kd ≠ .leaf) (hl : ws.length ≤ 100) : depR (.mk kd lb ns (ws.map lfU) rk) ≤ 8 ∧ kdsR [.leaf, .rank, .trim, .weigh] (.mk kd lb ns (ws.map lfU) rk) ∧ (namesF (.mk kd lb ns (ws.map lfU) rk)).length ≤ 1000 ∧ namesF (.mk kd lb ns (ws.map lfU) rk) = ws := by
  have hn : namesF (.mk kd lb ns (ws.map lfU) rk) = ws := by
    rw [namesF_node (r := .mk kd lb ns (ws.map lfU) rk) hk, ← namesL_flat]
    exact lf_names ws
  refine ⟨?_, kdsR_node.mpr ⟨by show kd ∈ _; cases kd <;> simp, lf_kds (by decide) ws⟩, by rw [hn]; omega, hn⟩
  rw [depR_node (r := .mk kd lb ns (ws.map lfU) rk) hk]
  show depRL (ws.map lfU) + 1 ≤ 8
  rw [lf_dep]
  decide
theorem ok_made (tx : Txt K mg A) : FnR P w K mg base CX0 16 A.f_made (spG (bs K A) P_made) := by
  have G_Leaf_init := ok_Leaf_init (P := P) (w := w) (base := base) tx
  have G_Rank_of := ok_Rank_of (P := P) (w := w) (base := base) tx
  have G_Trim_of := ok_Trim_of (P := P) (w := w) (base := base) tx
  have G_Weigh_of := ok_Weigh_of (P := P) (w := w) (base := base) tx
  have G_Leaf_names := ok_Leaf_names (P := P) (w := w) (base := base) tx
  have G_Rule_names := ok_Rule_names (P := P) (w := w) (base := base) tx 8
  refine fnR_of tx.g_made.d sc_made (len_ok (n := 3) fun rt xx ts hp => by obtain ⟨_, _, _, _, _, rfl, _⟩ := hp; rfl) (fun cdv Ar outer s H vs Q E hr h => ⟨_, (pss_cons (ps_setLc (i := 3) (own := [("_law_word_here", 4)]) rfl sc_made.nd rfl rfl (sw_true rfl rfl rfl (by decide +kernel)) (pi_listK K (pv 2)) (blkOk_by (N := ["_law_sort", "_law_numbers", "_law_words_here", "_law_leaves", "_law_word_here", "_law_rule", "e"]) (sc := defScope s_made) (by decide +kernel)) (fun _ _ _ _ _ => (pg_name (i := 4) sc_made.nd rfl (Or.inl rfl))) (fun _ _ _ _ _ => pts_nil) (fun _ _ _ _ _ => (pe_makeZ (E := fun _ => E0) (tx.m_Leaf) G_Leaf_init (room hr) rfl tx.c_Leaf passSL (pa_cons (pv 4) pa_nil))))
        (pss_cons (ps_tryNK K rfl rfl sc_made.nd takes0 (fun Wx pn xe tk po => (pss_one (ps_if (pt_cmpR (op_eqDK K (huD hr)) (pv 0) pe_int (nomark _)) (pss_one (ps_set (i := 5) sc_made.nd rfl (Or.inl rfl) (pe_cmethZ (E := WE Wx) (tx.r_Rank) (tx.q_Rank_of) G_Rank_of (room hr) (passAt tk) tx.c_Rank (pa_cons (pv 1) (pa_cons (pv 3) pa_nil))))) (pss_one (ps_if (pt_cmpR (op_eqDK K (huD hr)) (pv 0) pe_int (nomark _)) (pss_one (ps_set (i := 5) sc_made.nd rfl (Or.inl rfl) (pe_cmethZ (E := WE Wx) (tx.r_Trim) (tx.q_Trim_of) G_Trim_of (room hr) (passAt tk) tx.c_Trim (pa_cons (pv 1) (pa_cons (pv 3) pa_nil))))) (pss_one (ps_set (i := 5) sc_made.nd rfl (Or.inl rfl) (pe_cmethZ (E := WE Wx) (tx.r_Weigh) (tx.q_Weigh_of) G_Weigh_of (room hr) (passAt tk) tx.c_Weigh (pa_cons (pe_callTy (call_list_ofK K) (by rfl) tx.z_list (by decide +kernel) (pa_cons (pv 1) pa_nil)) (pa_cons (pv 3) pa_nil))))))))))
        (HdsN.cons (i := 6) (c := .ref A.c_BadRule) rfl rfl ⟨rfl, by decide, Or.inl tx.c_BadRule⟩ (fun a oe cls d pn hz hf => (pss_one (ps_ret (pe_lst (pa_cons (pe_xf tx.xf_BadRule tx.n_BadRule_kind hz hf (pv 6)) (pa_cons (pe_callB (call_isF K hz hf) (by rfl) tx.z_isinstance (by decide +kernel) (pa_cons (pv 6) (pa_cons (pe_glob (v := V.ref A.c_GaugeError) rfl tx.c_GaugeError rfl) pa_nil))) (pa_cons (pe_callB (call_isF K hz hf) (by rfl) tx.z_isinstance (by decide +kernel) (pa_cons (pv 6) (pa_cons (pe_glob (v := V.ref A.c_DuplicateGauge) rfl tx.c_DuplicateGauge rfl) pa_nil))) pa_nil)))))))
        (HdsN.cons (i := 6) (c := .ref A.c_DuplicateGauge) rfl rfl ⟨rfl, by decide, Or.inl tx.c_DuplicateGauge⟩ (fun a oe cls d pn hz hf => (pss_one (ps_ret (pe_lst (pa_cons (pe_xf tx.xf_DuplicateGauge tx.n_DuplicateGauge_name hz hf (pv 6)) (pa_cons (pe_callB (call_isF K hz hf) (by rfl) tx.z_isinstance (by decide +kernel) (pa_cons (pv 6) (pa_cons (pe_glob (v := V.ref A.c_GaugeError) rfl tx.c_GaugeError rfl) pa_nil))) (pa_cons (pe_callB (call_isF K hz hf) (by rfl) tx.z_isinstance (by decide +kernel) (pa_cons (pv 6) (pa_cons (pe_glob (v := V.ref A.c_BadGauge) rfl tx.c_BadGauge rfl) pa_nil))) pa_nil)))))))
        HdsN.nil)))
        (pss_one (ps_ret (pe_methV0 (k := 15) (E := fun _ => E0) (S := (fun C sp => (C = A.c_Leaf ∧ sp = (spFr (bs K A) P_Leaf_names)) ∨ (C = A.c_Rank ∧ sp = (spFr (bs K A) (P_Rule_names 8))) ∨ (C = A.c_Trim ∧ sp = (spFr (bs K A) (P_Rule_names 8))) ∨ (C = A.c_Weigh ∧ sp = (spFr (bs K A) (P_Rule_names 8))))) (pv 5) (fun C sp h => match C, sp, h with | _, _, .inl ⟨rfl, rfl⟩ => ⟨tx.cl_Leaf, _, tx.mi_Leaf_names, FnR.mono G_Leaf_names (by decide)⟩ | _, _, .inr (.inl ⟨rfl, rfl⟩) => ⟨tx.cl_Rank, _, tx.mi_Rank_names, FnR.mono G_Rule_names (by decide)⟩ | _, _, .inr (.inr (.inl ⟨rfl, rfl⟩)) => ⟨tx.cl_Trim, _, tx.mi_Trim_names, FnR.mono G_Rule_names (by decide)⟩ | _, _, .inr (.inr (.inr (⟨rfl, rfl⟩))) => ⟨tx.cl_Weigh, _, tx.mi_Weigh_names, FnR.mono G_Rule_names (by decide)⟩) (room hr) passS0))))),
      body_ok (N := ["_law_sort", "_law_numbers", "_law_words_here", "_law_leaves", "_law_word_here", "_law_rule", "e"]) (fun W ts rt xx hB ho hw hp => ?_) h⟩)
  have hK : W.B.K = K := congrArg Bs.K hB
  obtain ⟨s, o, lbl, good, ws, rfl, hwr, hl, hsel, hbad, hgood⟩ := hp
  show Sx W _ [some (T s), some o, some (T ws), none, none, none, none] _
  refine sx_seq (sx_set (α := List Ru) (rα := inferInstance) ?_)
  refine ev_lcF (fun _ => true) lfU hK (ev_var rfl ⟨by omega, fun W' sb n hn => ⟨[4], rfl, ?_⟩, ?_⟩)
  · apply tj_name
    exact et_yes ⟨fun _ => ev_leaf tx (sb.B.trans hB) hx0 (ev_var rfl ⟨rfl, rfl⟩), fun h => (nomatch h)⟩
  rw [filtT]
  show Sx W _ [some (T s), some o, some (T ws), some (T (ws.map lfU)), none, none, none] _
  have fin : ∀ {kd : RK} {ns : List Int} {rk : Bool}, kd ≠ .leaf → good → dupF ws = none → Sx W (tRet (tMethV "names" (fun C sp => (C = A.c_Leaf ∧ sp = spFr (bs K A) P_Leaf_names) ∨ (C = A.c_Rank ∧ sp = spFr (bs K A) (P_Rule_names 8)) ∨ (C = A.c_Trim ∧ sp = spFr (bs K A) (P_Rule_names 8)) ∨ (C = A.c_Weigh ∧ sp = spFr (bs K A) (P_Rule_names 8))) (fun _ => E0) (tVar 5) tNil)) [some (T s), some o, some (T ws), some (T (ws.map lfU)), none, some (T (Ru.mk kd lbl ns (ws.map lfU) rk)), none] { nx := fun _ => rt (T ()), rt := rt } := fun {kd ns rk} hk hg hd => by
    obtain ⟨q1, q2, q3, q4⟩ := lf_node (lb := lbl) (ns := ns) (rk := rk) hk hl
    refine sx_ret (evF_namesT hB (ev_var rfl ⟨q1, q2, q3, ?_⟩)).k
    rw [q4]
    have := hgood hg
    rw [hd] at this
    exact this
  refine sx_seq (sx_tryNK (fun n => (n = ⟨.BadRule, [("kind", .s lbl)]⟩ ∧ rt (T (Li3.mk lbl true false))) ∨ (∃ nm, n = ⟨.DuplicateGauge, [("name", .s nm)]⟩ ∧ rt (T (Li3.mk nm true false)))) (fun W' Wx hB' hX => ?_) (fun n hn => ?_))
  · have hB2 : W'.B = bs K A := hB'.trans hB
    have hK2 : W'.B.K = K := congrArg Bs.K hB2
    have hdup : good → ∀ n, dupF ws = some n → ((⟨.DuplicateGauge, [("name", .s n)]⟩ : Xn) = ⟨.BadRule, [("kind", .s lbl)]⟩ ∧ rt (T (Li3.mk lbl true false))) ∨ (∃ nm, (⟨.DuplicateGauge, [("name", .s n)]⟩ : Xn) = ⟨.DuplicateGauge, [("name", .s nm)]⟩ ∧ rt (T (Li3.mk nm true false))) := fun hg n hn => .inr ⟨n, rfl, by
      have := hgood hg
      rw [hn] at this
      exact this⟩
    rcases hsel with ⟨rfl, rfl, a, rfl, hgi⟩ | ⟨rfl, rfl, a, rfl, hgi⟩ | ⟨rfl, rfl, ns, rfl, hgi⟩
    · refine sx_if ?_
      walk_at "g"
      refine ⟨fun _ => ?_, fun h => absurd h (by decide)⟩
      refine sx_set (α := Ru) (rα := inferInstance) (ev_cmethZ .Rank hB2 rfl hX (ea_cons (ev_var rfl (ea_cons (ev_var rfl (ea_nil ⟨a, ws.map lfU, rfl, lf_ps (by decide) hl, ?_⟩))))))
      refine mkr_lf hwr (fun hn => .inl ⟨rfl, hbad fun hg => hn (by rw [List.length_map]; exact hgi.mp hg)⟩) (fun hg hd => ⟨_, rfl, ?_⟩) (fun hg => hdup (hgi.mpr (by rw [List.length_map] at hg; exact hg)))
      exact fin (by decide) (hgi.mpr (by rw [List.length_map] at hg; exact hg)) hd
    · refine sx_if ?_
      walk_at "g"
      refine ⟨fun h => absurd h (by decide), fun _ => ?_⟩
      refine sx_if ?_
      walk_at "g"
      refine ⟨fun _ => ?_, fun h => absurd h (by decide)⟩
      refine sx_set (α := Ru) (rα := inferInstance) (ev_cmethZ .Trim hB2 rfl hX (ea_cons (ev_var rfl (ea_cons (ev_var rfl (ea_nil ⟨a, ws.map lfU, rfl, lf_ps (by decide) hl, ?_⟩))))))
      refine mkr_lf hwr (fun hn => .inl ⟨rfl, hbad fun hg => hn (by rw [List.length_map]; exact hgi.mp hg)⟩) (fun hg hd => ⟨_, rfl, ?_⟩) (fun hg => hdup (hgi.mpr (by rw [List.length_map] at hg; exact hg)))
      exact fin (by decide) (hgi.mpr (by rw [List.length_map] at hg; exact hg)) hd
    · refine sx_if ?_
      walk_at "g"
      refine ⟨fun h => absurd h (by decide), fun _ => ?_⟩
      refine sx_if ?_
      walk_at "g"
      refine ⟨fun h => absurd h (by decide), fun _ => ?_⟩
      refine sx_set (α := Ru) (rα := inferInstance) (ev_cmethZ .Weigh hB2 rfl hX (ea_cons (evF_listOf (α := Int) (rα := inferInstance) hK2 (ev_var rfl ?_)).k))
      refine ea_cons (ev_var rfl (ea_nil ⟨ns, ws.map lfU, rfl, lf_ps (by decide) hl, ?_⟩))
      refine mkr_lf hwr (fun hn => .inl ⟨rfl, hbad fun hg => hn (by rw [List.length_map]; exact hgi.mp hg)⟩) (fun hg hd => ⟨_, rfl, ?_⟩) (fun hg => hdup (hgi.mpr (by rw [List.length_map] at hg; exact hg)))
      exact fin (by decide) (hgi.mpr (by rw [List.length_map] at hg; exact hg)) hd
  · rcases hn with ⟨rfl, hq⟩ | ⟨nm, rfl, hq⟩
    · refine .inl ⟨exm_at hB rfl tx.xm_BadRule_BadRule, fun a dd => ?_⟩
      refine sx_ret (α := Li3 Str Bool Bool) (rα := inferInstance) (ev_lst3 (ev_xfS (xcl_of hB rfl) (ev_var rfl ?_)))
      refine ⟨⟨rfl, rfl⟩, lbl, by simp [List.lookup], ?_⟩
      walk_at "g"
      refine isF_in hB rfl tx.ec_BadRule rel_ref tx.kit_BadRule_GaugeError ?_
      walk_at "g"
      exact isF_in hB rfl tx.ec_BadRule rel_ref tx.kit_BadRule_DuplicateGauge hq
    · refine .inr ⟨exm_atB hB rfl tx.xm_DuplicateGauge_BadRule, .inl ⟨exm_at hB rfl tx.xm_DuplicateGauge_DuplicateGauge, fun a dd => ?_⟩⟩
      refine sx_ret (α := Li3 Str Bool Bool) (rα := inferInstance) (ev_lst3 (ev_xfS (xcl_of hB rfl) (ev_var rfl ?_)))
      refine ⟨⟨rfl, rfl⟩, nm, by simp [List.lookup], ?_⟩
      walk_at "g"
      refine isF_in hB rfl tx.ec_DuplicateGauge rel_ref tx.kit_DuplicateGauge_GaugeError ?_
      walk_at "g"
      exact isF_in hB rfl tx.ec_DuplicateGauge rel_ref tx.kit_DuplicateGauge_BadGauge hq
def bareL : List Str := ["rank", "rank", "rank", "rank", "trim", "weigh", "weigh", "rank"]
def P_bare : PT := fun rt xx ts => ∃ (i : Int) (w : Str), ts = [T i, T w] ∧ 0 ≤ i ∧ i < 8 ∧ rt (T (bareL.getD i.toNat ""))
theorem ok_bare (tx : Txt K mg A) : FnR P w K mg base CX0 16 A.f_bare (spG (bs K A) P_bare) := by
  have G_Rank_init := ok_Rank_init (P := P) (w := w) (base := base) tx
  have G_Rank_least := ok_Rank_least (P := P) (w := w) (base := base) tx
  have G_Rank_greatest := ok_Rank_greatest (P := P) (w := w) (base := base) tx
  have G_Rank_median := ok_Rank_median (P := P) (w := w) (base := base) tx
  have G_Trim_init := ok_Trim_init (P := P) (w := w) (base := base) tx
  have G_Weigh_init := ok_Weigh_init (P := P) (w := w) (base := base) tx
  have G_Leaf_init := ok_Leaf_init (P := P) (w := w) (base := base) tx
  refine fnR_of tx.g_bare.d sc_bare (len_ok (n := 2) fun rt xx ts hp => by obtain ⟨_, _, rfl, _⟩ := hp; rfl) (fun cdv Ar outer s H vs Q E hr h => ⟨_, (pss_cons (ps_tryZ K (i := 2) (c := .ref A.c_BadRule) rfl rfl sc_bare.nd rfl rfl ⟨rfl, by decide, Or.inl tx.c_BadRule⟩ takes0 (fun Wx pn xe tk po => (pss_one (ps_if (pt_cmpR (op_eqDK K (huD hr)) (pv 0) pe_int (nomark _)) (pss_one (ps_expr (pe_makeZ (E := WE Wx) (tx.m_Rank) G_Rank_init (room hr) rfl tx.c_Rank (passAt tk) (pa_cons pe_int pa_nil)))) (pss_one (ps_if (pt_cmpR (op_eqDK K (huD hr)) (pv 0) pe_int (nomark _)) (pss_one (ps_expr (pe_cmethZ0 (E := WE Wx) (tx.r_Rank) (tx.q_Rank_least) G_Rank_least (room hr) (passAt tk) tx.c_Rank))) (pss_one (ps_if (pt_cmpR (op_eqDK K (huD hr)) (pv 0) pe_int (nomark _)) (pss_one (ps_expr (pe_cmethZ0 (E := WE Wx) (tx.r_Rank) (tx.q_Rank_greatest) G_Rank_greatest (room hr) (passAt tk) tx.c_Rank))) (pss_one (ps_if (pt_cmpR (op_eqDK K (huD hr)) (pv 0) pe_int (nomark _)) (pss_one (ps_expr (pe_cmethZ0 (E := WE Wx) (tx.r_Rank) (tx.q_Rank_median) G_Rank_median (room hr) (passAt tk) tx.c_Rank))) (pss_one (ps_if (pt_cmpR (op_eqDK K (huD hr)) (pv 0) pe_int (nomark _)) (pss_one (ps_expr (pe_makeZ (E := WE Wx) (tx.m_Trim) G_Trim_init (room hr) rfl tx.c_Trim (passAt tk) (pa_cons pe_int pa_nil)))) (pss_one (ps_if (pt_cmpR (op_eqDK K (huD hr)) (pv 0) pe_int (nomark _)) (pss_one (ps_expr (pe_makeZ (E := WE Wx) (tx.m_Weigh) G_Weigh_init (room hr) rfl tx.c_Weigh (passAt tk) (pa_cons (pe_lst pa_nil) pa_nil)))) (pss_one (ps_if (pt_cmpR (op_eqDK K (huD hr)) (pv 0) pe_int (nomark _)) (pss_one (ps_expr (pe_makeZ (E := WE Wx) (tx.m_Weigh) G_Weigh_init (room hr) rfl tx.c_Weigh (passAt tk) (pa_cons (pe_lst (pa_cons pe_int pa_nil)) (pa_cons (pe_makeZ (E := WE Wx) (tx.m_Leaf) G_Leaf_init (room hr) rfl tx.c_Leaf (passAt tk) (pa_cons (pv 1) pa_nil)) (pa_cons (pe_makeZ (E := WE Wx) (tx.m_Leaf) G_Leaf_init (room hr) rfl tx.c_Leaf (passAt tk) (pa_cons pe_str pa_nil)) pa_nil)))))) (pss_one (ps_expr (pe_makeZ (E := WE Wx) (tx.m_Rank) G_Rank_init (room hr) rfl tx.c_Rank (passAt tk) (pa_cons pe_int (pa_cons (pe_makeZ (E := WE Wx) (tx.m_Leaf) G_Leaf_init (room hr) rfl tx.c_Leaf (passAt tk) (pa_cons (pv 1) pa_nil)) (pa_cons (pe_makeZ (E := WE Wx) (tx.m_Leaf) G_Leaf_init (room hr) rfl tx.c_Leaf (passAt tk) (pa_cons (pv 1) pa_nil)) pa_nil)))))))))))))))))))))
        (fun a oe cls d pn hz hf => (pss_one (ps_ret (pe_xf tx.xf_BadRule tx.n_BadRule_kind hz hf (pv 2))))))
        (pss_one (ps_ret pe_non))),
      body_ok (N := ["_law_way", "_law_word_here", "e"]) (fun W ts rt xx hB ho hw hp => ?_) h⟩)
  have hK : W.B.K = K := congrArg Bs.K hB
  obtain ⟨i, w, rfl, hi0, hi1, hp⟩ := hp
  show Sx W _ [some (T i), some (T w), none] _
  refine sx_seq (sx_try (fun n => n = ⟨.BadRule, [("kind", .s (bareL.getD i.toNat ""))]⟩) (fun W' Wx hB' hX => ?_) (fun a dd n hn => ?_))
  · have hB2 : W'.B = bs K A := hB'.trans hB
    have hK2 : W'.B.K = K := congrArg Bs.K hB2
    have hi : i = 0 ∨ i = 1 ∨ i = 2 ∨ i = 3 ∨ i = 4 ∨ i = 5 ∨ i = 6 ∨ i = 7 := by omega
    clear hp hi0 hi1
    rcases hi with rfl | rfl | rfl | rfl | rfl | rfl | rfl | rfl
    · skip
      refine sx_if ?_
      walk_at "g"
      refine ⟨fun _ => ?_, fun h => absurd h (by decide)⟩
      refine sx_drop (α := Ru) (rα := inferInstance) (ev_makeS (γ := Ru) (rγ := inferInstance) (ruMk .rank) (fun b => ∃ lb ns ps rk, b = ruB lb ns ps rk) hB2 rfl hX (ru_hden (rcT_rank tx)) (es_cons (ev_int (es_zero (el_nil (α := Ru) (rα := inferInstance) ⟨by decide, _, ([] : List Str).map lfU, rfl, rfl, lf_ps (by decide) (by decide), fun _ => rfl, fun hg => absurd hg (by decide)⟩)))))
    · skip
      refine sx_if ?_
      walk_at "g"
      refine ⟨fun h => absurd h (by decide), fun _ => ?_⟩
      refine sx_if ?_
      walk_at "g"
      refine ⟨fun _ => ?_, fun h => absurd h (by decide)⟩
      refine sx_drop (α := Ru) (rα := inferInstance) (ev_cmethS (γ := Ru) (rγ := inferInstance) (n := 0) .Rank hB2 rfl hX (es_zero (el_nil ⟨by decide, ([] : List Str).map lfU, rfl, lf_ps (by decide) (by decide), fun _ => rfl, fun hg => absurd hg (by decide)⟩)))
    · skip
      refine sx_if ?_
      walk_at "g"
      refine ⟨fun h => absurd h (by decide), fun _ => ?_⟩
      refine sx_if ?_
      walk_at "g"
      refine ⟨fun h => absurd h (by decide), fun _ => ?_⟩
      refine sx_if ?_
      walk_at "g"
      refine ⟨fun _ => ?_, fun h => absurd h (by decide)⟩
      refine sx_drop (α := Ru) (rα := inferInstance) (ev_cmethS (γ := Ru) (rγ := inferInstance) (n := 0) .Rank hB2 rfl hX (es_zero (el_nil ⟨by decide, ([] : List Str).map lfU, rfl, lf_ps (by decide) (by decide), fun _ => rfl, fun hg => absurd hg (by decide)⟩)))
    · skip
      refine sx_if ?_
      walk_at "g"
      refine ⟨fun h => absurd h (by decide), fun _ => ?_⟩
      refine sx_if ?_
      walk_at "g"
      refine ⟨fun h => absurd h (by decide), fun _ => ?_⟩
      refine sx_if ?_
      walk_at "g"
      refine ⟨fun h => absurd h (by decide), fun _ => ?_⟩
      refine sx_if ?_
      walk_at "g"
      refine ⟨fun _ => ?_, fun h => absurd h (by decide)⟩
      refine sx_drop (α := Ru) (rα := inferInstance) (ev_cmethS (γ := Ru) (rγ := inferInstance) (n := 0) .Rank hB2 rfl hX (es_zero (el_nil ⟨by decide, ([] : List Str).map lfU, rfl, lf_ps (by decide) (by decide), fun _ => rfl, fun hg => absurd hg (by decide)⟩)))
    · skip
      refine sx_if ?_
      walk_at "g"
      refine ⟨fun h => absurd h (by decide), fun _ => ?_⟩
      refine sx_if ?_
      walk_at "g"
      refine ⟨fun h => absurd h (by decide), fun _ => ?_⟩
      refine sx_if ?_
      walk_at "g"
      refine ⟨fun h => absurd h (by decide), fun _ => ?_⟩
      refine sx_if ?_
      walk_at "g"
      refine ⟨fun h => absurd h (by decide), fun _ => ?_⟩
      refine sx_if ?_
      walk_at "g"
      refine ⟨fun _ => ?_, fun h => absurd h (by decide)⟩
      refine sx_drop (α := Ru) (rα := inferInstance) (ev_makeS (γ := Ru) (rγ := inferInstance) (ruMk .trim) (fun b => ∃ lb ns ps rk, b = ruB lb ns ps rk) hB2 rfl hX (ru_hden (rcT_trim tx)) (es_cons (ev_int (es_zero (el_nil (α := Ru) (rα := inferInstance) ⟨by decide, _, ([] : List Str).map lfU, rfl, rfl, lf_ps (by decide) (by decide), fun _ => rfl, fun hg => absurd hg (by decide)⟩)))))
    · skip
      refine sx_if ?_
      walk_at "g"
      refine ⟨fun h => absurd h (by decide), fun _ => ?_⟩
      refine sx_if ?_
      walk_at "g"
      refine ⟨fun h => absurd h (by decide), fun _ => ?_⟩
      refine sx_if ?_
      walk_at "g"
      refine ⟨fun h => absurd h (by decide), fun _ => ?_⟩
      refine sx_if ?_
      walk_at "g"
      refine ⟨fun h => absurd h (by decide), fun _ => ?_⟩
      refine sx_if ?_
      walk_at "g"
      refine ⟨fun h => absurd h (by decide), fun _ => ?_⟩
      refine sx_if ?_
      walk_at "g"
      refine ⟨fun _ => ?_, fun h => absurd h (by decide)⟩
      refine sx_drop (α := Ru) (rα := inferInstance) (ev_makeS (γ := Ru) (rγ := inferInstance) (ruMk .weigh) (fun b => ∃ lb ns ps rk, b = ruB lb ns ps rk) hB2 rfl hX (ru_hden (rcT_weigh tx)) (es_cons (ev_lst (α := Int) (rα := inferInstance) (el_nil ⟨by decide, (es_zero (el_nil (α := Ru) (rα := inferInstance) ⟨by decide, _, ([] : List Str).map lfU, rfl, rfl, lf_ps (by decide) (by decide), fun _ => rfl, fun hg => absurd hg (by decide)⟩))⟩))))
    · skip
      refine sx_if ?_
      walk_at "g"
      refine ⟨fun h => absurd h (by decide), fun _ => ?_⟩
      refine sx_if ?_
      walk_at "g"
      refine ⟨fun h => absurd h (by decide), fun _ => ?_⟩
      refine sx_if ?_
      walk_at "g"
      refine ⟨fun h => absurd h (by decide), fun _ => ?_⟩
      refine sx_if ?_
      walk_at "g"
      refine ⟨fun h => absurd h (by decide), fun _ => ?_⟩
      refine sx_if ?_
      walk_at "g"
      refine ⟨fun h => absurd h (by decide), fun _ => ?_⟩
      refine sx_if ?_
      walk_at "g"
      refine ⟨fun h => absurd h (by decide), fun _ => ?_⟩
      refine sx_if ?_
      walk_at "g"
      refine ⟨fun _ => ?_, fun h => absurd h (by decide)⟩
      refine sx_drop (α := Ru) (rα := inferInstance) (ev_makeS (γ := Ru) (rγ := inferInstance) (ruMk .weigh) (fun b => ∃ lb ns ps rk, b = ruB lb ns ps rk) hB2 rfl hX (ru_hden (rcT_weigh tx)) (es_cons (ev_lst (α := Int) (rα := inferInstance) (el_cons (ev_int (el_nil ⟨by show 1 ≤ 100000; decide, (es_zero (el_cons (ev_leaf tx hB2 hx0 (ev_var rfl (el_cons (ev_leaf tx hB2 hx0 (ev_str (el_nil ⟨by show 2 ≤ 100000; decide, _, [w, "A"].map lfU, rfl, rfl, lf_ps (by decide) (by show 2 ≤ 100; decide), fun _ => rfl, fun hg => absurd hg (fun z => by simp at z)⟩))))))))⟩))))))
    · skip
      refine sx_if ?_
      walk_at "g"
      refine ⟨fun h => absurd h (by decide), fun _ => ?_⟩
      refine sx_if ?_
      walk_at "g"
      refine ⟨fun h => absurd h (by decide), fun _ => ?_⟩
      refine sx_if ?_
      walk_at "g"
      refine ⟨fun h => absurd h (by decide), fun _ => ?_⟩
      refine sx_if ?_
      walk_at "g"
      refine ⟨fun h => absurd h (by decide), fun _ => ?_⟩
      refine sx_if ?_
      walk_at "g"
      refine ⟨fun h => absurd h (by decide), fun _ => ?_⟩
      refine sx_if ?_
      walk_at "g"
      refine ⟨fun h => absurd h (by decide), fun _ => ?_⟩
      refine sx_if ?_
      walk_at "g"
      refine ⟨fun h => absurd h (by decide), fun _ => ?_⟩
      refine sx_drop (α := Ru) (rα := inferInstance) (ev_makeS (γ := Ru) (rγ := inferInstance) (ruMk .rank) (fun b => ∃ lb ns ps rk, b = ruB lb ns ps rk) hB2 rfl hX (ru_hden (rcT_rank tx)) (es_cons (ev_int (es_zero (el_cons (ev_leaf tx hB2 hx0 (ev_var rfl (el_cons (ev_leaf tx hB2 hx0 (ev_var rfl (el_nil ⟨by show 2 ≤ 100000; decide, _, [w, w].map lfU, rfl, rfl, lf_ps (by decide) (by show 2 ≤ 100; decide), fun _ => rfl, fun hg => absurd hg (fun z => by simp at z)⟩)))))))))))
  · subst hn
    refine ⟨exm_at hB rfl tx.xm_BadRule_BadRule, ?_⟩
    exact sx_ret (ev_xfS (xcl_of hB rfl) (ev_var rfl ⟨⟨rfl, rfl⟩, _, by simp [List.lookup], hp⟩))
def P_nested : PT := fun rt xx ts => ∃ (us : List Str) (z : Str) (wy : Int), ts = [T (us ++ [z]), T wy] ∧ (us.Nodup ∧ 0 < us.length ∧ us.length ≤ 90 ∧ (∀ w ∈ us, (reprText w).length ≤ 3000 ∧ w.length ≤ 3000) ∧ ("B" : Str) ∉ us ∧ z ≠ "B" ∧ (z ∈ us → rt (T (Li2.mk z true))) ∧ (z ∉ us → rt (T ())))
theorem dupG_app : ∀ {a seen b : List Str}, a.Nodup → (∀ x ∈ a, x ∉ seen) → dupG seen (a ++ b) = dupG (seen ++ a) b
  | [], seen, b, _, _ => by rw [List.nil_append, List.append_nil]
  | x :: a, seen, b, hn, hs => by
    obtain ⟨h1, h2⟩ := List.nodup_cons.mp hn
    show (if x ∈ seen then some x else dupG (seen ++ [x]) (a ++ b)) = _
    rw [if_neg (hs x List.mem_cons_self), dupG_app h2 fun y hy hm => ?_, List.append_assoc]
    · rfl
    · rcases List.mem_append.mp hm with h | h
      · exact hs y (List.mem_cons_of_mem _ hy) h
      · rw [List.mem_singleton.mp h] at hy; exact h1 hy
theorem dupF_app {a b : List Str} (hn : a.Nodup) : dupF (a ++ b) = dupG a b := by
  unfold dupF
  rw [dupG_app hn fun _ _ => List.not_mem_nil, List.nil_append]
theorem mkr_any2 {lbl : Str} {kd : RK} {good : Prop} {ns : List Int} {ps : List Ru} {rk : Bool} {ok : Ru → Prop} {xx : Xn → Prop} (hg : good) (hnd : (namesL ps).Nodup) (q : ok (.mk kd lbl ns ps rk)) : MkR lbl kd good ns ps rk ok xx :=
  ⟨fun h => absurd hg h, fun _ => by rw [dupF_none.mpr hnd]; exact q⟩
theorem ok_nested (tx : Txt K mg A) : FnR P w K mg base CX0 16 A.f_nested (spG (bs K A) P_nested) := by
  have G_Leaf_init := ok_Leaf_init (P := P) (w := w) (base := base) tx
  have G_Rank_of := ok_Rank_of (P := P) (w := w) (base := base) tx
  have G_Trim_of := ok_Trim_of (P := P) (w := w) (base := base) tx
  have G_Weigh_of := ok_Weigh_of (P := P) (w := w) (base := base) tx
  refine fnR_of tx.g_nested.d sc_nested (len_ok (n := 2) fun rt xx ts hp => by obtain ⟨_, _, _, rfl, _⟩ := hp; rfl) (fun cdv Ar outer s H vs Q E hr h => ⟨_, (pss_cons (ps_set (i := 2) sc_nested.nd rfl (Or.inl rfl) (pe_makeZ (E := fun _ => E0) (tx.m_Leaf) G_Leaf_init (room hr) rfl tx.c_Leaf passSL (pa_cons (pe_ix (ix_listK K) (pv 0) (pe_un un_neg pe_int) (fun _ _ => rfl)) pa_nil)))
        (pss_cons (ps_tryZ K (i := 5) (c := .ref A.c_DuplicateGauge) rfl rfl sc_nested.nd rfl rfl ⟨rfl, by decide, Or.inl tx.c_DuplicateGauge⟩ takes0 (fun Wx pn xe tk po => (pss_cons (ps_set (i := 3) sc_nested.nd rfl (Or.inl rfl) (pe_cmethZ (E := WE Wx) (tx.r_Rank) (tx.q_Rank_of) G_Rank_of (room hr) (passAt tk) tx.c_Rank (pa_cons pe_int (pa_cons (pe_lc (own := [("_law_word_here", 4)]) rfl sc_nested.nd (pi_listK K (pe_slice (sl_listK K) (pv 0) po_none (po_some (pe_un un_neg pe_int)))) (blkOk_by (N := ["_law_words_here", "_law_way", "_law_last", "_law_front", "_law_word_here", "e"]) (sc := defScope s_nested) (by decide +kernel)) (fun _ _ _ _ _ => (pg_name (i := 4) sc_nested.nd rfl (Or.inl rfl))) (fun _ _ _ _ _ => pts_nil) (fun _ _ _ _ _ => (pe_makeZ (E := fun _ => E0) (tx.m_Leaf) G_Leaf_init (room hr) rfl tx.c_Leaf passSL (pa_cons (pv 4) pa_nil)))) pa_nil))))
        (pss_one (ps_if (pt_cmpR (op_eqDK K (huD hr)) (pv 1) pe_int (nomark _)) (pss_one (ps_expr (pe_cmethZ (E := WE Wx) (tx.r_Rank) (tx.q_Rank_of) G_Rank_of (room hr) (passAt tk) tx.c_Rank (pa_cons pe_int (pa_cons (pe_lst (pa_cons (pv 3) (pa_cons (pe_cmethZ (E := WE Wx) (tx.r_Trim) (tx.q_Trim_of) G_Trim_of (room hr) (passAt tk) tx.c_Trim (pa_cons pe_int (pa_cons (pe_lst (pa_cons (pe_makeZ (E := WE Wx) (tx.m_Leaf) G_Leaf_init (room hr) rfl tx.c_Leaf (passAt tk) (pa_cons pe_str pa_nil)) (pa_cons (pv 2) pa_nil))) pa_nil))) pa_nil))) pa_nil))))) (pss_one (ps_expr (pe_cmethZ (E := WE Wx) (tx.r_Weigh) (tx.q_Weigh_of) G_Weigh_of (room hr) (passAt tk) tx.c_Weigh (pa_cons (pe_lst (pa_cons pe_int (pa_cons pe_int pa_nil))) (pa_cons (pe_lst (pa_cons (pe_cmethZ (E := WE Wx) (tx.r_Trim) (tx.q_Trim_of) G_Trim_of (room hr) (passAt tk) tx.c_Trim (pa_cons pe_int (pa_cons (pe_lst (pa_cons (pv 3) pa_nil)) pa_nil))) (pa_cons (pv 2) pa_nil))) pa_nil)))))))))
        (fun a oe cls d pn hz hf => (pss_one (ps_ret (pe_lst (pa_cons (pe_xf tx.xf_DuplicateGauge tx.n_DuplicateGauge_name hz hf (pv 5)) (pa_cons (pe_callB (call_isF K hz hf) (by rfl) tx.z_isinstance (by decide +kernel) (pa_cons (pv 5) (pa_cons (pe_glob (v := V.ref A.c_GaugeError) rfl tx.c_GaugeError rfl) pa_nil))) pa_nil)))))))
        (pss_one (ps_ret pe_non)))),
      body_ok (N := ["_law_words_here", "_law_way", "_law_last", "_law_front", "_law_word_here", "e"]) (fun W ts rt xx hB ho hw hp => ?_) h⟩)
  have hK : W.B.K = K := congrArg Bs.K hB
  obtain ⟨us, z, wy, rfl, hnd, h0, hl, hr, hBu, hzB, hyes, hno⟩ := hp
  have hul : namesL (us.map lfU) = us := lf_names us
  show Sx W _ [some (T (us ++ [z])), some (T wy), none, none, none, none] _
  refine sx_seq (sx_set (α := Ru) (rα := inferInstance) (ev_leaf tx hB hx0 (ev_ixL (α := Str) (rα := inferInstance) hK (ev_var rfl ?_))))
  walk_at "g"
  refine ⟨z, atI_last1 (by simp), ?_⟩
  show Sx W _ [some (T (us ++ [z])), some (T wy), some (T (lfU z)), none, none, none] _
  refine sx_seq (sx_try (fun n => n = ⟨.DuplicateGauge, [("name", .s z)]⟩ ∧ z ∈ us) (fun W' Wx hB' hX => ?_) (fun a dd n hn => ?_))
  · have hB2 : W'.B = bs K A := hB'.trans hB
    have hK2 : W'.B.K = K := congrArg Bs.K hB2
    have e0 : us.Nodup → dupF us = none := fun h => dupF_none.mpr h
    refine sx_seq (sx_set (α := Ru) (rα := inferInstance) (ev_cmethZ .Rank hB2 rfl hX (ea_cons (ev_int (ea_cons (α := List Ru) (rα := inferInstance) ?_)))))
    refine ev_lcF (fun _ => true) lfU hK2 (ev_butlast hK2 (ev_var rfl ?_))
    walk_at "g"
    refine ⟨rfl, ?_⟩
    rw [List.dropLast_concat]
    refine ⟨by omega, fun W2 sb n hn => ⟨[4], rfl, ?_⟩, ?_⟩
    · apply tj_name
      exact et_yes ⟨fun _ => ev_leaf tx (sb.B.trans hB2) hx0 (ev_var rfl ⟨rfl, rfl⟩), fun h => (nomatch h)⟩
    rw [filtT]
    refine ea_nil ⟨0, us.map lfU, rfl, lf_ps (by decide) (by omega), mkr_of ⟨by decide, by rw [List.length_map]; omega⟩ hnd ⟨_, rfl, ?_⟩⟩
    generalize hF : Ru.mk .rank "rank" [0] (us.map lfU) ((us.map lfU).all Ru.rk) = fr
    have f1 : namesF fr = us := by rw [← hF]; exact (lf_node (lb := "rank") (ns := [0]) (rk := (us.map lfU).all Ru.rk) (kd := .rank) (by decide) (by omega)).2.2.2
    have f2 : kdsR [.leaf, .rank, .trim, .weigh] fr := by rw [← hF]; exact (lf_node (lb := "rank") (ns := [0]) (rk := (us.map lfU).all Ru.rk) (kd := .rank) (by decide) (by omega)).2.1
    have f3 : depR fr = 1 := by rw [← hF, depR_node (by show RK.rank ≠ .leaf; decide)]; show depRL (us.map lfU) + 1 = 1; rw [lf_dep]
    have lk : ∀ w : Str, kdsR [.leaf, .rank, .trim, .weigh] (lfU w) := fun w => kdsR_node.mpr ⟨by show RK.leaf ∈ _; decide, trivial⟩
    have hX : HX W' [some (T (us ++ [z])), some (T wy), some (T (lfU z)), some (T fr), none, none] (WE Wx) fun n => n = ⟨.DuplicateGauge, [("name", .s z)]⟩ ∧ z ∈ us := fun σ H G => hX σ H (G.none_at 3)
    show Sx W' _ [some (T (us ++ [z])), some (T wy), some (T (lfU z)), some (T fr), none, none] _
    refine sx_if ?_
    walk_at "g"
    refine ⟨fun _ => ?_, fun _ => ?_⟩
    · refine sx_drop (α := Ru) (rα := inferInstance) (ev_cmethZ .Rank hB2 rfl hX (ea_cons (ev_int (ea_cons (α := List Ru) (rα := inferInstance) ?_))))
      refine ev_lst (α := Ru) (rα := inferInstance) (el_cons (ev_var rfl (el_cons (ev_cmethZ .Trim hB2 rfl hX (ea_cons (ev_int (ea_cons (ev_lst (α := Ru) (rα := inferInstance) (el_cons (ev_leaf tx hB2 hx0 (ev_str (el_cons (ev_var rfl (el_nil ⟨by show 2 ≤ 100000; decide, ?_⟩))))))))))))))
      refine ea_nil ⟨0, [("B" : Str), z].map lfU, rfl, lf_ps (by decide) (by show 2 ≤ 100; decide), mkr_of ⟨by decide, by simp⟩ (by simp [Ne.symm hzB]) ⟨_, rfl, ?_⟩⟩
      refine el_nil ⟨by show 2 ≤ 100000; decide, ea_nil ⟨0, [fr, .mk .trim "trim" [0] ([("B" : Str), z].map lfU) false], rfl, ?_, ?_⟩⟩
      · refine ⟨⟨f2, ⟨by show RK.trim ∈ _; decide, lk _, lk _, trivial⟩, trivial⟩, ?_, by show 2 ≤ 1000; decide, ?_⟩
        · show max (depR fr) (max (max 0 (max 0 0) + 1) 0) ≤ 7
          rw [f3]
          decide
        · show (namesF fr ++ ([("B" : Str)] ++ ([z] ++ []) ++ [])).length ≤ 1000
          rw [f1]
          simp
          omega
      · refine ⟨fun h => absurd (by simp) h, fun _ => ?_⟩
        have e : namesL [fr, .mk .trim "trim" [0] ([("B" : Str), z].map lfU) false] = us ++ [("B" : Str), z] := by
          show namesF fr ++ ([("B" : Str)] ++ ([z] ++ []) ++ []) = _
          rw [f1]
          rfl
        rw [e, dupF_app hnd]
        show (match (if ("B" : Str) ∈ us then some ("B" : Str) else if z ∈ us ++ [("B" : Str)] then some z else none) with | none => _ | some n => _)
        rw [if_neg hBu]
        by_cases hz : z ∈ us
        · rw [if_pos (List.mem_append_left _ hz)]
          exact ⟨(hr z hz).1, (hr z hz).2, rfl, hz⟩
        · rw [if_neg fun h => (List.mem_append.mp h).elim hz fun h => hzB (List.mem_singleton.mp h)]
          refine ⟨_, rfl, ?_⟩
          exact sx_ret (ev_non (hno hz))
    · refine sx_drop (α := Ru) (rα := inferInstance) (ev_cmethZ .Weigh hB2 rfl hX (ea_cons (ev_lst (α := Int) (rα := inferInstance) (el_cons (ev_int (el_cons (ev_int (el_nil ⟨by show 2 ≤ 100000; decide, ?_⟩))))))))
      refine ea_cons (ev_lst (α := Ru) (rα := inferInstance) (el_cons (ev_cmethZ .Trim hB2 rfl hX (ea_cons (ev_int (ea_cons (ev_lst (α := Ru) (rα := inferInstance) (el_cons (ev_var rfl (el_nil ⟨by show 1 ≤ 100000; decide, ?_⟩))))))))))
      refine ea_nil ⟨0, [fr], rfl, ⟨⟨f2, trivial⟩, by show max (depR fr) 0 ≤ 7; rw [f3]; decide, by show 1 ≤ 1000; decide, by show (namesF fr ++ []).length ≤ 1000; rw [f1, List.append_nil]; omega⟩, mkr_any2 ⟨by decide, by simp⟩ (by show (namesF fr ++ []).Nodup; rw [f1, List.append_nil]; exact hnd) ⟨_, rfl, ?_⟩⟩
      refine el_cons (ev_var rfl (el_nil ⟨by show 2 ≤ 100000; decide, ea_nil ⟨[1, 1], [.mk .trim "trim" [0] [fr] false, lfU z], rfl, ?_, ?_⟩⟩))
      · refine ⟨⟨⟨by show RK.trim ∈ _; decide, f2, trivial⟩, lk _, trivial⟩, ?_, by show 2 ≤ 1000; decide, ?_⟩
        · show max (max (depR fr) 0 + 1) (max 0 0) ≤ 7
          rw [f3]
          decide
        · show ((namesF fr ++ []) ++ ([z] ++ [])).length ≤ 1000
          rw [f1]
          simp
          omega
      · refine ⟨fun h => absurd (by simp) h, fun _ => ?_⟩
        have e : namesL [.mk .trim "trim" [0] [fr] false, lfU z] = us ++ [z] := by
          show (namesF fr ++ []) ++ ([z] ++ []) = _
          rw [f1, List.append_nil]
          rfl
        rw [e, dupF_app hnd]
        show (match (if z ∈ us then some z else none) with | none => _ | some n => _)
        by_cases hz : z ∈ us
        · rw [if_pos hz]
          exact ⟨(hr z hz).1, (hr z hz).2, rfl, hz⟩
        · rw [if_neg hz]
          refine ⟨_, rfl, ?_⟩
          exact sx_ret (ev_non (hno hz))
  · obtain ⟨rfl, hz⟩ := hn
    refine ⟨exm_at hB rfl tx.xm_DuplicateGauge_DuplicateGauge, ?_⟩
    refine sx_ret (α := Li2 Str Bool) (rα := inferInstance) (ev_lst2 (ev_xfS (xcl_of hB rfl) (ev_var rfl ?_)))
    refine ⟨⟨rfl, rfl⟩, z, by simp [List.lookup], ?_⟩
    walk_at "g"
    exact isF_in hB rfl tx.ec_DuplicateGauge rel_ref tx.kit_DuplicateGauge_GaugeError (hyes hz)
def spLaw (K : PySem.W.Frag) : Sp := fun vs H Q _ => ∃ (a : Addr) (ns : List Int), vs = [.ref a] ∧ SqL K H a (ns.map V.int) ∧ ns.length ≤ 63 ∧ ∀ H', Q (.bl true) H' 
def rwLbl (r : Rw) : Str := if r.a = 0 then "rank" else if r.a = 1 then "trim" else "weigh"
def rwGood (ws : List Str) : Rw → Prop
  | .n a b => 0 ≤ b ∧ ((a = 0 ∧ b < ws.length) ∨ (a = 1 ∧ 2 * b < ws.length))
  | .l _ bs => bs.length = ws.length ∧ (∀ w ∈ bs, 0 ≤ w) ∧ bs.sum ≠ 0
def rwOk : Rw → Prop
  | .n a _ => a = 0 ∨ a = 1
  | .l a _ => a = 2
def SzW (ws : List Str) : Prop := ∀ w ∈ ws, (reprText w).length ≤ 3000 ∧ w.length ≤ 3000
theorem ev_madeRow {K : PySem.W.Frag} {A : Ad} {α : Type} {rα : Rep α} {W : Wd} {Γ : Gam} {k : α → Prop} (hB : W.B = bs K A) (hK : W.B.K = K) (r : Rw) (ws : List Str) (h13 : Γ[13]? = some (some (T r))) (h2 : Γ[2]? = some (some (T ws))) (hw : SzW ws) (hl : ws.length ≤ 100) (hok : rwOk r)
    (hbad : ¬ rwGood ws r → ∃ a : α, T (Li3.mk (rwLbl r) true false) = T a ∧ k a) (hgood : rwGood ws r → match dupF ws with | none => ∃ a : α, T ws = T a ∧ k a | some n => ∃ a : α, T (Li3.mk n true false) = T a ∧ k a) :
    EvK W (tCallR (spG (bs K A) P_made) E0 (tCons (tOp (rIxT K) (tVar 13) (tC (.int 0))) (tCons (tOp (rIxT K) (tVar 13) (tC (.int 1))) (tCons (tVar 2) tNil)))) Γ k := by
  cases r with
  | n a b =>
    refine ev_callR hB (ea_cons (ev_row0 hK (ev_var h13 (ea_cons (ev_row1n hK (ev_var h13 ⟨a, b, rfl, ea_cons (ev_var h2 (ea_nil ?_))⟩))))))
    rcases hok with rfl | rfl
    · exact ⟨0, T b, "rank", _, ws, rfl, hw, hl, .inl ⟨rfl, rfl, b, rfl, by show (0 ≤ b ∧ _) ↔ _; simp⟩, hbad, hgood⟩
    · exact ⟨1, T b, "trim", _, ws, rfl, hw, hl, .inr (.inl ⟨rfl, rfl, b, rfl, by show (0 ≤ b ∧ _) ↔ _; simp⟩), hbad, hgood⟩
  | l a ns =>
    refine ev_callR hB (ea_cons (ev_row0 hK (ev_var h13 (ea_cons (ev_row1l hK (ev_var h13 ⟨a, ns, rfl, ea_cons (ev_var h2 (ea_nil ?_))⟩))))))
    obtain rfl : a = 2 := hok
    exact ⟨2, T ns, "weigh", _, ws, rfl, hw, hl, .inr (.inr ⟨rfl, rfl, ns, rfl, Iff.rfl⟩), hbad, hgood⟩
theorem md_bad {α : Type} {rα : Rep α} {k : α → Prop} {xx : Xn → Prop} {s : Int} {o : G.Ty} {lbl : Str} {good : Prop} {ws : List Str} (hw : SzW ws) (hl : ws.length ≤ 100) (hsel : (s = 0 ∧ lbl = "rank" ∧ ∃ a : Int, o = T a ∧ (good ↔ (0 ≤ a ∧ a < ws.length))) ∨ (s = 1 ∧ lbl = "trim" ∧ ∃ a : Int, o = T a ∧ (good ↔ (0 ≤ a ∧ 2 * a < ws.length))) ∨ (s = 2 ∧ lbl = "weigh" ∧ ∃ ns : List Int, o = T ns ∧ (good ↔ (ns.length = ws.length ∧ (∀ w ∈ ns, 0 ≤ w) ∧ ns.sum ≠ 0))))
    (hn : ¬ good) (q : ∃ a : α, T (Li3.mk lbl true false) = T a ∧ k a) : P_made (fun t => ∃ a : α, t = T a ∧ k a) xx [T s, o, T ws] := ⟨s, o, lbl, good, ws, rfl, hw, hl, hsel, fun _ => q, fun h => absurd h hn⟩
theorem md_dup {α : Type} {rα : Rep α} {k : α → Prop} {xx : Xn → Prop} {s : Int} {o : G.Ty} {lbl : Str} {good : Prop} {ws : List Str} {n : Str} (hw : SzW ws) (hl : ws.length ≤ 100) (hsel : (s = 0 ∧ lbl = "rank" ∧ ∃ a : Int, o = T a ∧ (good ↔ (0 ≤ a ∧ a < ws.length))) ∨ (s = 1 ∧ lbl = "trim" ∧ ∃ a : Int, o = T a ∧ (good ↔ (0 ≤ a ∧ 2 * a < ws.length))) ∨ (s = 2 ∧ lbl = "weigh" ∧ ∃ ns : List Int, o = T ns ∧ (good ↔ (ns.length = ws.length ∧ (∀ w ∈ ns, 0 ≤ w) ∧ ns.sum ≠ 0))))
    (hg : good) (hd : dupF ws = some n) (q : ∃ a : α, T (Li3.mk n true false) = T a ∧ k a) : P_made (fun t => ∃ a : α, t = T a ∧ k a) xx [T s, o, T ws] := ⟨s, o, lbl, good, ws, rfl, hw, hl, hsel, fun h => absurd hg h, fun _ => by rw [hd]; exact q⟩
theorem sum_ones : ∀ l : List Str, (l.map fun _ => (1 : Int)).sum = l.length
  | [] => rfl
  | _ :: r => by rw [List.map_cons, List.sum_cons, sum_ones r, List.length_cons]; omega
theorem sum_zeros : ∀ l : List Str, (l.map fun _ => (0 : Int)).sum = 0
  | [] => rfl
  | _ :: r => by rw [List.map_cons, List.sum_cons, sum_zeros r]; rfl

theorem ok_law' (tx : Txt K mg A) {fd : FuncData} (F : Fun K "law" "law" s_law A.f_law fd) : FnOk P w K mg base CX0 17 A.f_law fd ["_law_script"] (spLaw K) := by
  have G_box := ok_box (P := P) (w := w) (base := base) tx
  have G_words := ok_words (P := P) (w := w) (base := base) tx
  have G_take := ok_take (P := P) (w := w) (base := base) tx
  have G_nested := ok_nested (P := P) (w := w) (base := base) tx
  have G_made := ok_made (P := P) (w := w) (base := base) tx
  have G_bare := ok_bare (P := P) (w := w) (base := base) tx
  refine F.ok sc_law (fun vs H Q E h => ?_) (fun cdv Ar outer s H vs Q E hr h => ?_)
  · obtain ⟨a, ns, rfl, _⟩ := h; rfl
  · refine ⟨_, (pss_cons (ps_set (i := 1) sc_law.nd rfl (Or.inl rfl) (pe_callR G_box (room hr) rfl (tx.g_box).g (tx.g_box).kp pass0 (pa_cons (pv 0) (pa_cons pe_int pa_nil))))
        (pss_cons (ps_set (i := 2) sc_law.nd rfl (Or.inr rfl) (pe_callR G_words (room hr) rfl (tx.g_words).g (tx.g_words).kp pass0 (pa_cons (pv 1) (pa_cons (pe_op op_add pe_int (pe_callR G_take (room hr) rfl (tx.g_take).g (tx.g_take).kp pass0 (pa_cons (pv 1) (pa_cons pe_int pa_nil)))) pa_nil))))
        (pss_cons (ps_set (i := 3) sc_law.nd rfl (Or.inl rfl) (pe_callB (call_lenK K) (by rfl) tx.z_len PySem.boot_len (pa_cons (pv 2) pa_nil)))
        (pss_cons (ps_set (i := 4) sc_law.nd rfl (Or.inl rfl) (pe_lst (pa_cons (pe_tup (pa_cons pe_int (pa_cons (pe_op op_sub (pe_un un_neg pe_int) (pe_callR G_take (room hr) rfl (tx.g_take).g (tx.g_take).kp pass0 (pa_cons (pv 1) (pa_cons pe_int pa_nil)))) pa_nil))) (pa_cons (pe_tup (pa_cons pe_int (pa_cons (pe_op op_add (pv 3) (pe_callR G_take (room hr) rfl (tx.g_take).g (tx.g_take).kp pass0 (pa_cons (pv 1) (pa_cons pe_int pa_nil)))) pa_nil))) (pa_cons (pe_tup (pa_cons pe_int (pa_cons (pe_un un_neg pe_int) pa_nil))) (pa_cons (pe_tup (pa_cons pe_int (pa_cons (pe_op op_fdiv (pe_op op_add (pv 3) pe_int) pe_int) pa_nil))) pa_nil))))))
        (pss_cons (ps_setLc (i := 5) (own := [("_law_word_here", 6)]) rfl sc_law.nd rfl rfl (sw_true rfl rfl rfl (by decide +kernel)) (pi_listK K (pv 2)) (blkOk_by (N := ["_law_script", "_law_box_here", "_law_words_here", "_law_many", "_law_bad", "_law_ones", "_law_word_here", "_law_less", "_law_fair", "_law_twice", "_law_at", "_law_double", "_law_nested_here", "_law_row", "_law_due", "_law_way"]) (sc := defScope s_law) (by decide +kernel)) (fun _ _ _ _ _ => (pg_name (i := 6) sc_law.nd rfl (Or.inl rfl))) (fun _ _ _ _ _ => pts_nil) (fun _ _ _ _ _ => pe_int))
        (pss_cons (ps_set (i := 7) sc_law.nd rfl (Or.inl rfl) (pe_callTy (call_list_ofK K) (by rfl) tx.z_list (by decide +kernel) (pa_cons (pv 5) pa_nil)))
        (pss_cons (ps_asg (pe_op op_sub (pe_un un_neg pe_int) (pe_callR G_take (room hr) rfl (tx.g_take).g (tx.g_take).kp pass0 (pa_cons (pv 1) (pa_cons pe_int pa_nil)))) (pg_sub (pv 7) (pe_callR G_take (room hr) rfl (tx.g_take).g (tx.g_take).kp pass0 (pa_cons (pv 1) (pa_cons (pv 3) pa_nil))) set_list))
        (pss_cons (ps_set (i := 4) sc_law.nd rfl (Or.inl rfl) (pe_op op_cat (pv 4) (pe_lst (pa_cons (pe_tup (pa_cons pe_int (pa_cons (pe_op op_cat (pv 5) (pe_lst (pa_cons pe_int pa_nil))) pa_nil))) (pa_cons (pe_tup (pa_cons pe_int (pa_cons (pe_slice (sl_listK K) (pv 5) (po_some pe_int) po_none) pa_nil))) (pa_cons (pe_tup (pa_cons pe_int (pa_cons (pe_op op_cat (pv 7) (pe_lst pa_nil)) pa_nil))) (pa_cons (pe_tup (pa_cons pe_int (pa_cons (pe_lc (own := [("_law_word_here", 6)]) rfl sc_law.nd (pi_listK K (pv 2)) (blkOk_by (N := ["_law_script", "_law_box_here", "_law_words_here", "_law_many", "_law_bad", "_law_ones", "_law_word_here", "_law_less", "_law_fair", "_law_twice", "_law_at", "_law_double", "_law_nested_here", "_law_row", "_law_due", "_law_way"]) (sc := defScope s_law) (by decide +kernel)) (fun _ _ _ _ _ => (pg_name (i := 6) sc_law.nd rfl (Or.inl rfl))) (fun _ _ _ _ _ => pts_nil) (fun _ _ _ _ _ => pe_int)) pa_nil))) pa_nil)))))))
        (pss_cons (ps_set (i := 8) sc_law.nd rfl (Or.inl rfl) (pe_lst (pa_cons (pe_tup (pa_cons pe_int (pa_cons pe_int pa_nil))) (pa_cons (pe_tup (pa_cons pe_int (pa_cons (pe_op op_sub (pv 3) pe_int) pa_nil))) (pa_cons (pe_tup (pa_cons pe_int (pa_cons pe_int pa_nil))) (pa_cons (pe_tup (pa_cons pe_int (pa_cons (pe_op op_fdiv (pe_op op_sub (pv 3) pe_int) pe_int) pa_nil))) (pa_cons (pe_tup (pa_cons pe_int (pa_cons (pv 5) pa_nil))) pa_nil)))))))
        (pss_cons (ps_set (i := 9) sc_law.nd rfl (Or.inl rfl) (pe_op op_cat (pv 2) (pe_lst (pa_cons (pe_ix (ix_listK K) (pv 2) (pe_callR G_take (room hr) rfl (tx.g_take).g (tx.g_take).kp pass0 (pa_cons (pv 1) (pa_cons (pv 3) pa_nil))) (fun _ _ => rfl)) pa_nil))))
        (pss_cons (ps_set (i := 10) sc_law.nd rfl (Or.inl rfl) (pe_callR G_take (room hr) rfl (tx.g_take).g (tx.g_take).kp pass0 (pa_cons (pv 1) (pa_cons (pe_op op_add (pv 3) pe_int) pa_nil))))
        (pss_cons (ps_set (i := 11) sc_law.nd rfl (Or.inl rfl) (pe_op op_cat (pe_op op_cat (pe_op op_cat (pe_slice (sl_listK K) (pv 2) po_none (po_some (pv 10))) (pe_lst (pa_cons (pe_ix (ix_listK K) (pv 2) pe_int (fun _ _ => rfl)) pa_nil))) (pe_slice (sl_listK K) (pv 2) (po_some (pv 10)) po_none)) (pe_lst (pa_cons (pe_ix (ix_listK K) (pv 2) (pe_un un_neg pe_int) (fun _ _ => rfl)) pa_nil))))
        (pss_cons (ps_set (i := 12) sc_law.nd rfl (Or.inl rfl) (pe_op op_cat (pv 2) (pe_lst (pa_cons (pe_ix (ix_listK K) (pv 2) (pe_un un_neg pe_int) (fun _ _ => rfl)) pa_nil))))
        (pss_cons (ps_if (PW.pt (pw_or (pt_cmpR (op_neDK K (huD hr)) (pe_callR G_nested (room hr) rfl (tx.g_nested).g (tx.g_nested).kp pass0 (pa_cons (pv 12) (pa_cons pe_int pa_nil))) (pe_lst (pa_cons (pe_ix (ix_listK K) (pv 2) (pe_un un_neg pe_int) (fun _ _ => rfl)) (pa_cons pe_bl pa_nil))) (nomark _)) (pw_or1 (pt_cmpR (op_neDK K (huD hr)) (pe_callR G_nested (room hr) rfl (tx.g_nested).g (tx.g_nested).kp pass0 (pa_cons (pv 12) (pa_cons pe_int pa_nil))) (pe_lst (pa_cons (pe_ix (ix_listK K) (pv 2) (pe_un un_neg pe_int) (fun _ _ => rfl)) (pa_cons pe_bl pa_nil))) (nomark _))))) (pss_one (ps_ret pe_bl)) pss_nil)
        (pss_cons (ps_if (PW.pt (pw_or (pt_cmpR op_notN (pe_callR G_nested (room hr) rfl (tx.g_nested).g (tx.g_nested).kp pass0 (pa_cons (pe_op op_cat (pv 2) (pe_lst (pa_cons pe_str pa_nil))) (pa_cons pe_int pa_nil))) pe_non (nomark _)) (pw_or1 (pt_cmpR op_notN (pe_callR G_nested (room hr) rfl (tx.g_nested).g (tx.g_nested).kp pass0 (pa_cons (pe_op op_cat (pv 2) (pe_lst (pa_cons pe_str pa_nil))) (pa_cons pe_int pa_nil))) pe_non (nomark _))))) (pss_one (ps_ret pe_bl)) pss_nil)
        (pss_cons (ps_for PassesOwn.never rfl (pi_listK K (pv 4)) (pg_name (i := 13) sc_law.nd rfl (Or.inl rfl)) (pss_one (ps_if (pt_cmpR (op_neDK K (huD hr)) (pe_callR G_made (room hr) rfl (tx.g_made).g (tx.g_made).kp pass0 (pa_cons (pe_ix (ix_tupK K) (pv 13) pe_int (fun _ _ => rfl)) (pa_cons (pe_ix (ix_tupK K) (pv 13) pe_int (fun _ _ => rfl)) (pa_cons (pv 2) pa_nil)))) (pe_lst (pa_cons (pe_ix (ix_listK K) (pe_lst (pa_cons pe_str (pa_cons pe_str (pa_cons pe_str pa_nil)))) (pe_ix (ix_tupK K) (pv 13) pe_int (fun _ _ => rfl)) (fun _ _ => rfl)) (pa_cons pe_bl (pa_cons pe_bl pa_nil)))) (nomark _)) (pss_one (ps_ret pe_bl)) pss_nil)))
        (pss_cons (ps_for PassesOwn.never rfl (pi_listK K (pv 8)) (pg_name (i := 13) sc_law.nd rfl (Or.inl rfl)) (pss_one (ps_if (pt_cmpR (op_neDK K (huD hr)) (pe_callR G_made (room hr) rfl (tx.g_made).g (tx.g_made).kp pass0 (pa_cons (pe_ix (ix_tupK K) (pv 13) pe_int (fun _ _ => rfl)) (pa_cons (pe_ix (ix_tupK K) (pv 13) pe_int (fun _ _ => rfl)) (pa_cons (pv 2) pa_nil)))) (pv 2) (nomark _)) (pss_one (ps_ret pe_bl)) pss_nil)))
        (pss_cons (ps_if (PW.pt (pw_or (pt_cmpR (op_neDK K (huD hr)) (pe_callR G_made (room hr) rfl (tx.g_made).g (tx.g_made).kp pass0 (pa_cons pe_int (pa_cons (pv 3) (pa_cons (pv 9) pa_nil)))) (pe_lst (pa_cons (pe_ix (ix_listK K) (pv 9) (pe_un un_neg pe_int) (fun _ _ => rfl)) (pa_cons pe_bl (pa_cons pe_bl pa_nil)))) (nomark _)) (pw_or1 (pt_cmpR (op_neDK K (huD hr)) (pe_callR G_made (room hr) rfl (tx.g_made).g (tx.g_made).kp pass0 (pa_cons pe_int (pa_cons pe_int (pa_cons (pv 11) pa_nil)))) (pe_lst (pa_cons (pe_ix (ix_listK K) (pv 2) pe_int (fun _ _ => rfl)) (pa_cons pe_bl (pa_cons pe_bl pa_nil)))) (nomark _))))) (pss_one (ps_ret pe_bl)) pss_nil)
        (pss_cons (ps_if (PW.pt (pw_or (pt_cmpR (op_neDK K (huD hr)) (pe_callR G_made (room hr) rfl (tx.g_made).g (tx.g_made).kp pass0 (pa_cons pe_int (pa_cons (pe_op op_cat (pv 5) (pe_lst (pa_cons pe_int pa_nil))) (pa_cons (pv 9) pa_nil)))) (pe_lst (pa_cons (pe_ix (ix_listK K) (pv 9) (pe_un un_neg pe_int) (fun _ _ => rfl)) (pa_cons pe_bl (pa_cons pe_bl pa_nil)))) (nomark _)) (pw_or1 (pt_cmpR (op_neDK K (huD hr)) (pe_ix (ix_listK K) (pe_callR G_made (room hr) rfl (tx.g_made).g (tx.g_made).kp pass0 (pa_cons pe_int (pa_cons (pe_op op_add (pv 3) pe_int) (pa_cons (pv 11) pa_nil)))) pe_int (fun _ _ => rfl)) pe_str (nomark _))))) (pss_one (ps_ret pe_bl)) pss_nil)
        (pss_cons (ps_if (PW.pt (pw_or (pt_cmpR (op_neDK K (huD hr)) (pe_ix (ix_listK K) (pe_callR G_made (room hr) rfl (tx.g_made).g (tx.g_made).kp pass0 (pa_cons pe_int (pa_cons (pe_op op_add (pv 3) pe_int) (pa_cons (pv 11) pa_nil)))) pe_int (fun _ _ => rfl)) pe_str (nomark _)) (pw_or1 (pt_cmpR (op_neDK K (huD hr)) (pe_ix (ix_listK K) (pe_callR G_made (room hr) rfl (tx.g_made).g (tx.g_made).kp pass0 (pa_cons pe_int (pa_cons (pv 5) (pa_cons (pv 9) pa_nil)))) pe_int (fun _ _ => rfl)) pe_str (nomark _))))) (pss_one (ps_ret pe_bl)) pss_nil)
        (pss_cons (ps_set (i := 14) sc_law.nd rfl (Or.inl rfl) (pe_lst (pa_cons pe_str (pa_cons pe_str (pa_cons pe_str (pa_cons pe_str (pa_cons pe_str (pa_cons pe_str (pa_cons pe_str (pa_cons pe_str pa_nil))))))))))
        (pss_one (ps_ret (pe_cmpR (op_eqDK K (huD hr)) (pe_lc (own := [("_law_way", 15)]) rfl sc_law.nd (pi_range1 (by rfl) tx.z_range (pa_cons pe_int pa_nil)) (blkOk_by (N := ["_law_script", "_law_box_here", "_law_words_here", "_law_many", "_law_bad", "_law_ones", "_law_word_here", "_law_less", "_law_fair", "_law_twice", "_law_at", "_law_double", "_law_nested_here", "_law_row", "_law_due", "_law_way"]) (sc := defScope s_law) (by decide +kernel)) (fun _ _ _ _ _ => (pg_name (i := 15) sc_law.nd rfl (Or.inl rfl))) (fun _ _ _ _ _ => pts_nil) (fun _ _ _ _ _ => (pe_callR G_bare (room hr) rfl (tx.g_bare).g (tx.g_bare).kp pass0 (pa_cons (pv 15) (pa_cons (pe_ix (ix_listK K) (pv 2) pe_int (fun _ _ => rfl)) pa_nil))))) (pv 14) (nomark _))))))))))))))))))))))))), ?_⟩
    try dsimp only [cxOf, Cx.nox]
    obtain ⟨a, ns, rfl, hS, hl, kq⟩ := h
    refine raw_seq (raw_asg ⟨_, rfl, a, ns, 123, rfl, hS, hl, fun b c H' hbc hb hc => ?_⟩)
    dsimp only
    refine law_run (B := bs K A) (j := 1) hbc hb hc (by exact rfl) kq fun W hB => ?_
    have hK : W.B.K = K := congrArg Bs.K hB
    show Sx W _ [none, some (T Bx.mk), none, none, none, none, none, none, none, none, none, none, none, none, none, none] _
    walk_at "g"
    refine pc_take ⟨by decide, by decide, fun m h0 h1 => ⟨_, rfl, ?_⟩⟩
    walk_at "g"
    refine pc_words ⟨by omega, by omega, fun ws hwl hwn hwg => ⟨_, rfl, ?_⟩⟩
    have hw0 : 0 < ws.length := by omega
    have hw9 : ws.length ≤ 10 := by omega
    refine sx_seq (sx_set (ev_len hK (ev_var rfl ?_)))
    show Sx W _ [none, some (T Bx.mk), some (T ws), some (T (ws.length : Int)), none, none, none, none, none, none, none, none, none, none, none, none] _
    refine sx_seq (sx_set (α := List Rw) (rα := inferInstance) (ev_lst (α := Rw) (rα := inferInstance) (el_cons (ev_rowN (ev_int (ev_opI ?_))))))
    walk_at "g"
    refine pc_take ⟨by decide, by decide, fun x x0 x1 => ⟨_, rfl, ?_⟩⟩
    refine el_cons (ev_rowN (ev_int (ev_opI (ev_var rfl ?_))))
    walk_at "g"
    refine pc_take ⟨by decide, by decide, fun y y0 y1 => ⟨_, rfl, ?_⟩⟩
    refine el_cons (ev_rowN (ev_int ?_))
    walk_at "g0"
    walk_at "g0"
    refine el_cons (ev_rowN (ev_int (ev_opC (ev_opI (ev_var rfl (ev_int (ev_int ⟨⟨by decide, by decide⟩, el_nil ⟨by show 4 ≤ 100000; decide, ?_⟩⟩)))))))
    show Sx W _ [none, some (T Bx.mk), some (T ws), some (T (ws.length : Int)), some (T [Rw.n 0 (-1 - x), Rw.n 0 (ws.length + y), Rw.n 1 (-1), Rw.n 1 ((ws.length + 1) / 2)]), none, none, none, none, none, none, none, none, none, none, none] _
    refine sx_seq (sx_set (α := List Int) (rα := inferInstance) ?_)
    refine ev_lcF (fun _ => true) (fun _ => (1 : Int)) hK (ev_var rfl ⟨by omega, fun W' sb n hn => ⟨[6], rfl, tj_name (et_yes ⟨fun _ => ev_int ⟨rfl, rfl⟩, fun h => (nomatch h)⟩)⟩, ?_⟩)
    rw [filtT]
    have hol : (ws.map fun _ => (1 : Int)).length = ws.length := List.length_map _
    have hos := sum_ones ws
    have ho1 : ∀ a ∈ (ws.map fun _ => (1 : Int)), a = 1 := fun a ha => by
      obtain ⟨_, _, rfl⟩ := List.mem_map.mp ha
      rfl
    generalize (ws.map fun _ => (1 : Int)) = ones at hol hos ho1
    show Sx W _ [none, some (T Bx.mk), some (T ws), some (T (ws.length : Int)), some (T [Rw.n 0 (-1 - x), Rw.n 0 (ws.length + y), Rw.n 1 (-1), Rw.n 1 ((ws.length + 1) / 2)]), some (T ones), none, none, none, none, none, none, none, none, none, none] _
    refine sx_own fun F => ?_
    refine sxm_seq (sxm_new (β := Int) (rβ := inferInstance) fun Wo hW => ?_)
    have hBo : Wo.B = bs K A := hW.B.trans hB
    have hKo : Wo.B.K = K := congrArg Bs.K hBo
    refine evF_listOf hKo (ev_var rfl fun q us => ?_)
    show SxM W F _ [(q, us)] [none, some (T Bx.mk), some (T ws), some (T (ws.length : Int)), some (T [Rw.n 0 (-1 - x), Rw.n 0 (ws.length + y), Rw.n 1 (-1), Rw.n 1 ((ws.length + 1) / 2)]), some (T ones), none, some (T (Ol.mk q us ones)), none, none, none, none, none, none, none, none] _
    refine sxm_seq (sxm_put (α := Int) (rα := inferInstance) 0 rfl rfl fun Wo hW => ?_)
    have hBo : Wo.B = bs K A := hW.B.trans hB
    have hKo : Wo.B.K = K := congrArg Bs.K hBo
    refine ev_opI ?_
    walk_at "g"
    refine pc_take ⟨by decide, by decide, fun z z0 z1 => ⟨_, rfl, ?_⟩⟩
    walk_at "g"
    refine pc_take ⟨by omega, by omega, fun t0 t1 t2 => ⟨_, rfl, ?_⟩⟩
    obtain ⟨t, rfl⟩ : ∃ a : Nat, t0 = a := ⟨t0.toNat, by omega⟩
    refine ⟨t, by unfold ixN; rw [if_pos (by omega), if_pos (by omega), Int.toNat_natCast], fun v1 => ?_⟩
    refine sxm_freeze (Γ' := [none, some (T Bx.mk), some (T ws), some (T (ws.length : Int)), some (T [Rw.n 0 (-1 - x), Rw.n 0 (ws.length + y), Rw.n 1 (-1), Rw.n 1 ((ws.length + 1) / 2)]), some (T ones), none, some (T (ones.set t (-1 - z))), none, none, none, none, none, none, none, none]) (by walk_at "frz") ?_
    have hneg : (-1 - z : Int) ∈ ones.set t (-1 - z) := List.mem_set (by omega) _
    have hll : (ones.set t (-1 - z)).length = ws.length := by rw [List.length_set]; exact hol
    generalize ones.set t (-1 - z) = less at hneg hll
    refine sxm_pure fun W2 hW2 => ?_
    have hB2 : W2.B = bs K A := hW2.B.trans hB
    have hK2 : W2.B.K = K := congrArg Bs.K hB2
    refine sx_seq (sx_set (α := List Rw) (rα := inferInstance) (ev_cat (ev_var rfl (ev_lst (α := Rw) (rα := inferInstance) (el_cons (ev_rowL (ev_int (ev_cat (ev_var rfl (ev_lst (α := Int) (rα := inferInstance) (el_cons (ev_int (el_nil ⟨by show 1 ≤ 100000; decide, by show _ + 1 ≤ _; omega, ?_⟩)))))))))))))
    refine el_cons (ev_rowL (ev_int (ev_from1 hK2 (ev_var rfl ?_))))
    refine el_cons (ev_rowL (ev_int (ev_cat (ev_var rfl (ev_lst (α := Int) (rα := inferInstance) (el_nil ⟨by decide, ?_, ?_⟩))))))
    · show less.length + 0 ≤ 100000
      omega
    refine el_cons (ev_rowL (ev_int (ev_lcF (fun _ => true) (fun _ => (0 : Int)) hK2 (ev_var rfl ⟨by omega, fun W' sb n hn => ⟨[6], rfl, tj_name (et_yes ⟨fun _ => ev_int ⟨rfl, rfl⟩, fun h => (nomatch h)⟩)⟩, ?_⟩))))
    rw [filtT]
    refine el_nil ⟨by show 4 ≤ 100000; decide, by show 4 + 4 ≤ 100000; decide, ?_⟩
    have hbad : ∀ r ∈ ([Rw.n 0 (-1 - x), Rw.n 0 (ws.length + y), Rw.n 1 (-1), Rw.n 1 ((ws.length + 1) / 2)] ++ [Rw.l 2 (ones ++ [1]), Rw.l 2 (ones.drop 1), Rw.l 2 (less ++ []), Rw.l 2 (ws.map fun _ => (0 : Int))] : List Rw), rwOk r ∧ ¬ rwGood ws r := by
      intro r hr
      simp only [List.mem_append, List.mem_cons, List.not_mem_nil, or_false] at hr
      rcases hr with (rfl | rfl | rfl | rfl) | (rfl | rfl | rfl | rfl)
      · exact ⟨.inl rfl, fun h => by have h : 0 ≤ -1 - x ∧ _ := h; omega⟩
      · exact ⟨.inl rfl, fun h => by
          have h : _ ∧ (((0 : Int) = 0 ∧ (ws.length : Int) + y < ws.length) ∨ ((0 : Int) = 1 ∧ _)) := h
          omega⟩
      · exact ⟨.inr rfl, fun h => by have h : (0 : Int) ≤ -1 ∧ _ := h; omega⟩
      · exact ⟨.inr rfl, fun h => by
          have h : _ ∧ (((1 : Int) = 0 ∧ _) ∨ ((1 : Int) = 1 ∧ 2 * (((ws.length : Int) + 1) / 2) < ws.length)) := h
          omega⟩
      · exact ⟨rfl, fun h => by have := h.1; rw [List.length_append] at this; simp at this; omega⟩
      · exact ⟨rfl, fun h => by have := h.1; rw [List.length_drop] at this; omega⟩
      · exact ⟨rfl, fun h => by have := h.2.1 (-1 - z) (by rw [List.append_nil]; exact hneg); omega⟩
      · exact ⟨rfl, fun h => h.2.2 (sum_zeros ws)⟩
    show Sx W2 _ [none, some (T Bx.mk), some (T ws), some (T (ws.length : Int)), some (T ([Rw.n 0 (-1 - x), Rw.n 0 (ws.length + y), Rw.n 1 (-1), Rw.n 1 ((ws.length + 1) / 2)] ++ [Rw.l 2 (ones ++ [1]), Rw.l 2 (ones.drop 1), Rw.l 2 (less ++ []), Rw.l 2 (ws.map fun _ => (0 : Int))] : List Rw)), some (T ones), none, some (T less), none, none, none, none, none, none, none, none] _
    generalize ([Rw.n 0 (-1 - x), Rw.n 0 (ws.length + y), Rw.n 1 (-1), Rw.n 1 ((ws.length + 1) / 2)] ++ [Rw.l 2 (ones ++ [1]), Rw.l 2 (ones.drop 1), Rw.l 2 (less ++ []), Rw.l 2 (ws.map fun _ => (0 : Int))] : List Rw) = bad at hbad
    refine sx_seq (sx_set (α := List Rw) (rα := inferInstance) (ev_lst (α := Rw) (rα := inferInstance) (el_cons (ev_rowN (ev_int (ev_int (el_cons (ev_rowN (ev_int (ev_opI (ev_var rfl (ev_int (el_cons (ev_rowN (ev_int (ev_int (el_cons (ev_rowN (ev_int (ev_opC (ev_opI (ev_var rfl (ev_int (ev_int ⟨⟨by decide, by decide⟩, ?_⟩))))))))))))))))))))))))
    refine el_cons (ev_rowL (ev_int (ev_var rfl (el_nil ⟨by show 5 ≤ 100000; decide, ?_⟩))))
    have hfair : ∀ r ∈ ([Rw.n 0 0, Rw.n 0 ((ws.length : Int) - 1), Rw.n 1 0, Rw.n 1 (((ws.length : Int) - 1) / 2), Rw.l 2 ones] : List Rw), rwOk r ∧ rwGood ws r := by
      intro r hr
      simp only [List.mem_cons, List.not_mem_nil, or_false] at hr
      rcases hr with rfl | rfl | rfl | rfl | rfl
      · exact ⟨.inl rfl, Int.le_refl _, .inl ⟨rfl, by omega⟩⟩
      · exact ⟨.inl rfl, show 0 ≤ (ws.length : Int) - 1 by omega, .inl ⟨rfl, by omega⟩⟩
      · exact ⟨.inr rfl, Int.le_refl _, .inr ⟨rfl, by omega⟩⟩
      · exact ⟨.inr rfl, show 0 ≤ ((ws.length : Int) - 1) / 2 by omega, .inr ⟨rfl, by omega⟩⟩
      · exact ⟨rfl, hol, fun w hw => by rw [ho1 w hw]; decide, by omega⟩
    show Sx W2 _ [none, some (T Bx.mk), some (T ws), some (T (ws.length : Int)), some (T (bad : List Rw)), some (T ones), none, some (T less), some (T ([Rw.n 0 0, Rw.n 0 ((ws.length : Int) - 1), Rw.n 1 0, Rw.n 1 (((ws.length : Int) - 1) / 2), Rw.l 2 ones] : List Rw)), none, none, none, none, none, none, none] _
    generalize ([Rw.n 0 0, Rw.n 0 ((ws.length : Int) - 1), Rw.n 1 0, Rw.n 1 (((ws.length : Int) - 1) / 2), Rw.l 2 ones] : List Rw) = fair at hfair
    refine sx_seq (sx_set (α := List Str) (rα := inferInstance) (ev_cat (ev_var rfl (ev_lst (α := Str) (rα := inferInstance) (el_cons (ev_ixL (α := Str) (rα := inferInstance) hK2 (ev_var rfl ?_)))))))
    walk_at "g"
    refine pc_take ⟨by omega, by omega, fun v0 v1 v2 => ⟨_, rfl, ?_⟩⟩
    obtain ⟨v, rfl⟩ : ∃ a : Nat, v0 = a := ⟨v0.toNat, by omega⟩
    obtain ⟨wv, hwv⟩ : ∃ w, ws[v]? = some w := ⟨ws[v]'(by omega), List.getElem?_eq_getElem (by omega)⟩
    refine ⟨wv, atI_nat hwv, el_nil ⟨by show 1 ≤ 100000; decide, by show _ + 1 ≤ _; omega, ?_⟩⟩
    have hwvm : wv ∈ ws := List.mem_of_getElem? hwv
    show Sx W2 _ [none, some (T Bx.mk), some (T ws), some (T (ws.length : Int)), some (T (bad : List Rw)), some (T ones), none, some (T less), some (T (fair : List Rw)), some (T (ws ++ [wv])), none, none, none, none, none, none] _
    refine sx_seq (sx_set (α := Int) (rα := inferInstance) (ev_callR hB2 (ea_cons (ev_var rfl (ea_cons (ev_opI (ev_var rfl (ev_int (ea_nil (pc_take ⟨by omega, by omega, fun at0 a0 a1 => ⟨_, rfl, ?_⟩⟩))))))))))
    obtain ⟨at_, rfl⟩ : ∃ a : Nat, at0 = a := ⟨at0.toNat, by omega⟩
    show Sx W2 _ [none, some (T Bx.mk), some (T ws), some (T (ws.length : Int)), some (T (bad : List Rw)), some (T ones), none, some (T less), some (T (fair : List Rw)), some (T (ws ++ [wv])), some (T (at_ : Int)), none, none, none, none, none] _
    obtain ⟨w0, hw0e⟩ : ∃ w, ws[0]? = some w := ⟨ws[0]'(by omega), List.getElem?_eq_getElem (by omega)⟩
    have hw0m : w0 ∈ ws := List.mem_of_getElem? hw0e
    obtain ⟨wl, hwle⟩ : ∃ w, ws.getLast? = some w := ⟨ws.getLast (by intro e; rw [e] at hw0; exact absurd hw0 (by decide)), List.getLast?_eq_some_getLast _⟩
    have hwlm : wl ∈ ws := List.mem_of_getLast? hwle
    refine sx_seq (sx_set (α := List Str) (rα := inferInstance) (ev_cat (ev_cat (ev_cat (ev_upto hK2 (ev_var rfl (ev_var rfl ⟨by omega, ?_⟩)))))))
    rw [Int.toNat_natCast]
    refine ev_lst (α := Str) (rα := inferInstance) (el_cons (ev_ixL (α := Str) (rα := inferInstance) hK2 (ev_var rfl (ev_int ⟨w0, atI_nat (j := 0) hw0e, el_nil ⟨by show 1 ≤ 100000; decide, ?_, ?_⟩⟩))))
    · rw [List.length_take]
      show _ + 1 ≤ _
      omega
    refine ev_fromN hK2 (ev_var rfl (ev_var rfl ⟨⟨by omega, by omega⟩, ?_⟩))
    rw [Int.toNat_natCast]
    refine ⟨?_, ?_⟩
    · rw [List.length_append, List.length_take, List.length_drop]
      show _ + 1 + _ ≤ _
      omega
    refine ev_lst (α := Str) (rα := inferInstance) (el_cons (ev_ixL (α := Str) (rα := inferInstance) hK2 (ev_var rfl ?_)))
    walk_at "g"
    refine ⟨wl, atI_last1 hwle, el_nil ⟨by show 1 ≤ 100000; decide, ?_, ?_⟩⟩
    · rw [List.length_append, List.length_append, List.length_take, List.length_drop]
      show _ + 1 + _ + 1 ≤ _
      omega
    have hdl : (ws.take at_ ++ [w0] ++ ws.drop at_ ++ [wl]).length = ws.length + 2 := by
      rw [List.length_append, List.length_append, List.length_append, List.length_take, List.length_drop]
      show _ + 1 + _ + 1 = _
      omega
    have hdm : ∀ w ∈ ws.take at_ ++ [w0] ++ ws.drop at_ ++ [wl], w ∈ ws := by
      intro w hw
      simp only [List.mem_append, List.mem_singleton] at hw
      rcases hw with ((h | rfl) | h) | rfl
      · exact List.mem_of_mem_take h
      · exact hw0m
      · exact List.mem_of_mem_drop h
      · exact hwlm
    have hdd : dupF (ws.take at_ ++ [w0] ++ ws.drop at_ ++ [wl]) = some w0 := by
      cases ws with
      | nil => exact absurd hw0 (by decide)
      | cons a r =>
        obtain rfl : a = w0 := by simpa using hw0e
        cases at_ with
        | zero =>
          show (if a ∈ ([] : List Str) then some a else if a ∈ ([] : List Str) ++ [a] then some a else _) = some a
          simp
        | succ n =>
          rw [List.append_assoc, List.append_assoc, dupF_app (hwn.sublist (List.take_sublist _ _))]
          show (if a ∈ (a :: r).take (n + 1) then some a else _) = some a
          rw [if_pos (by simp)]
    show Sx W2 _ [none, some (T Bx.mk), some (T ws), some (T (ws.length : Int)), some (T (bad : List Rw)), some (T ones), none, some (T less), some (T (fair : List Rw)), some (T (ws ++ [wv])), some (T (at_ : Int)), some (T (ws.take at_ ++ [w0] ++ ws.drop at_ ++ [wl])), none, none, none, none] _
    generalize ws.take at_ ++ [w0] ++ ws.drop at_ ++ [wl] = dbl at hdl hdm hdd
    refine sx_seq (sx_set (α := List Str) (rα := inferInstance) (ev_cat (ev_var rfl (ev_lst (α := Str) (rα := inferInstance) (el_cons (ev_ixL (α := Str) (rα := inferInstance) hK2 (ev_var rfl ?_)))))))
    walk_at "g"
    refine ⟨wl, atI_last1 hwle, el_nil ⟨by show 1 ≤ 100000; decide, by show _ + 1 ≤ _; omega, ?_⟩⟩
    show Sx W2 _ [none, some (T Bx.mk), some (T ws), some (T (ws.length : Int)), some (T (bad : List Rw)), some (T ones), none, some (T less), some (T (fair : List Rw)), some (T (ws ++ [wv])), some (T (at_ : Int)), some (T dbl), some (T (ws ++ [wl])), none, none, none] _
    have hsz : SzW ws := fun w hw => repr_good (hwg w hw)
    have hszd : SzW dbl := fun w hw => hsz w (hdm w hw)
    have hszt : SzW (ws ++ [wv]) := fun w hw => by
      rcases List.mem_append.mp hw with h | h
      · exact hsz w h
      · rw [List.mem_singleton.mp h]; exact hsz wv hwvm
    have hok : ∀ w ∈ ws, PyData.strOk w = true := fun w hw => good_ok (hwg w hw)
    have hup : ∀ s : Str, ¬ (∀ c ∈ s.cps.toList, 97 ≤ c ∧ c ≤ 122) → s ∉ ws := fun s hs hm => hs (hwg s hm).2.2.1
    have hA : ("A" : Str) ∉ ws := hup _ (by decide +kernel)
    have hBn : ("B" : Str) ∉ ws := hup _ (by decide +kernel)
    have hd0 : dupF ws = none := dupF_none.mpr hwn
    have hdt : dupF (ws ++ [wv]) = some wv := by
      rw [dupF_app hwn]
      show (if wv ∈ ws then some wv else none) = some wv
      rw [if_pos hwvm]
    have hlt : (ws ++ [wv]).length = ws.length + 1 := by rw [List.length_append]; rfl
    have hwlB : wl ≠ "B" := fun e => hBn (e ▸ hwlm)
    refine sx_seq (sx_if (et_or (et_test ?_)))
    refine ev_neG (α := Li2 Str Bool) (rα := inferInstance) hK2 (ev_callR hB2 (ea_cons (ev_var rfl (ea_cons (ev_int (ea_nil ⟨ws, wl, 0, rfl, ⟨hwn, hw0, by omega, hsz, hBn, hwlB, fun _ => ⟨_, rfl, ?_⟩, fun h => absurd hwlm h⟩⟩))))))
    refine ev_lst2 (ev_ixL (α := Str) (rα := inferInstance) hK2 (ev_var rfl ?_))
    walk_at "g"
    refine ⟨wl, atI_last1 hwle, ev_bl ?_⟩
    refine neg_in (by decide) ?_ ?_ ?_
    · exact ⟨hok wl hwlm, trivial⟩
    · exact ⟨hok wl hwlm, trivial⟩
    rw [decide_eq_true rfl]
    refine ⟨fun h => absurd h (by decide), fun _ => et_test ?_⟩
    refine ev_neG (α := Li2 Str Bool) (rα := inferInstance) hK2 (ev_callR hB2 (ea_cons (ev_var rfl (ea_cons (ev_int (ea_nil ⟨ws, wl, 1, rfl, ⟨hwn, hw0, by omega, hsz, hBn, hwlB, fun _ => ⟨_, rfl, ?_⟩, fun h => absurd hwlm h⟩⟩))))))
    refine ev_lst2 (ev_ixL (α := Str) (rα := inferInstance) hK2 (ev_var rfl ?_))
    walk_at "g"
    refine ⟨wl, atI_last1 hwle, ev_bl ?_⟩
    refine neg_in (by decide) ?_ ?_ ?_
    · exact ⟨hok wl hwlm, trivial⟩
    · exact ⟨hok wl hwlm, trivial⟩
    rw [decide_eq_true rfl]
    refine ⟨fun h => absurd h (by decide), fun _ => ?_⟩
    refine sx_next ?_
    refine sx_seq (sx_if (et_or (et_test ?_)))
    refine ev_notN0 (ev_callR hB2 (ea_cons (ev_cat (α := Str) (rα := inferInstance) (ev_var rfl (ev_lst (α := Str) (rα := inferInstance) (el_cons (ev_str (el_nil ⟨by show 1 ≤ 100000; decide, by show _ + 1 ≤ _; omega, ?_⟩))))))))
    refine ea_cons (ev_int (ea_nil ⟨ws, _, 0, rfl, ⟨hwn, hw0, by omega, hsz, hBn, by decide +kernel, fun h => absurd h hA, fun _ => ⟨(), rfl, ?_⟩⟩⟩))
    refine ⟨fun h => absurd h (by decide), fun _ => et_test ?_⟩
    refine ev_notN0 (ev_callR hB2 (ea_cons (ev_cat (α := Str) (rα := inferInstance) (ev_var rfl (ev_lst (α := Str) (rα := inferInstance) (el_cons (ev_str (el_nil ⟨by show 1 ≤ 100000; decide, by show _ + 1 ≤ _; omega, ?_⟩))))))))
    refine ea_cons (ev_int (ea_nil ⟨ws, _, 1, rfl, ⟨hwn, hw0, by omega, hsz, hBn, by decide +kernel, fun h => absurd h hA, fun _ => ⟨(), rfl, ?_⟩⟩⟩))
    refine ⟨fun h => absurd h (by decide), fun _ => ?_⟩
    refine sx_next ?_
    have hre : ∀ r : Rw, rwOk r → atI [Str.ofString "rank", Str.ofString "trim", Str.ofString "weigh"] r.a = some (rwLbl r) := fun r h => by
      cases r with
      | n a b => rcases h with rfl | rfl <;> rfl
      | l a bs =>
        obtain rfl : a = 2 := h
        rfl
    have hlo : ∀ r : Rw, PyData.strOk (rwLbl r) = true := fun r => by
      unfold rwLbl
      split
      · exact strOk_of _
      · split <;> exact strOk_of _
    refine sx_seq (sx_forL (α := Rw) (rα := inferInstance) hK2 (ev_var rfl ⟨fun i Γ' => ∃ o13, Γ' = [none, some (T Bx.mk), some (T ws), some (T (ws.length : Int)), some (T (bad : List Rw)), some (T ones), none, some (T less), some (T (fair : List Rw)), some (T (ws ++ [wv])), some (T (at_ : Int)), some (T dbl), some (T (ws ++ [wl])), o13, none, none], ⟨none, rfl⟩, ?_, ?_⟩))
    · rintro i r Γ' hr ⟨o13, rfl⟩
      obtain ⟨hro, hrb⟩ := hbad r (List.mem_of_getElem? hr)
      refine ⟨[13], tj_name ?_⟩
      refine sx_if (et_test ?_)
      refine ev_neG (α := Li3 Str Bool Bool) (rα := inferInstance) hK2 (ev_madeRow hB2 hK2 r ws rfl rfl hsz (by omega) hro (fun _ => ⟨_, rfl, ?_⟩) (fun h => absurd h hrb))
      refine ev_lst3 (ev_ixL (α := Str) (rα := inferInstance) hK2 (ev_lst (α := Str) (rα := inferInstance) (el_cons (ev_str (el_cons (ev_str (el_cons (ev_str (el_nil ⟨by show 3 ≤ 100000; decide, ev_row0 hK2 (ev_var rfl ?_)⟩)))))))))
      refine ⟨rwLbl r, hre r hro, ev_bl (ev_bl ?_)⟩
      refine neg_in (by decide) ?_ ?_ ?_
      · exact ⟨hlo r, trivial, trivial⟩
      · exact ⟨hlo r, trivial, trivial⟩
      rw [decide_eq_true rfl]
      exact ⟨fun h => absurd h (by decide), fun _ => sx_next ⟨_, rfl⟩⟩
    rintro Γ' ⟨o13, rfl⟩
    refine sx_seq (sx_forL (α := Rw) (rα := inferInstance) hK2 (ev_var rfl ⟨fun i Γ' => ∃ o13, Γ' = [none, some (T Bx.mk), some (T ws), some (T (ws.length : Int)), some (T (bad : List Rw)), some (T ones), none, some (T less), some (T (fair : List Rw)), some (T (ws ++ [wv])), some (T (at_ : Int)), some (T dbl), some (T (ws ++ [wl])), o13, none, none], ⟨_, rfl⟩, ?_, ?_⟩))
    · rintro i r Γ' hr ⟨o13, rfl⟩
      obtain ⟨hro, hrb⟩ := hfair r (List.mem_of_getElem? hr)
      refine ⟨[13], tj_name ?_⟩
      refine sx_if (et_test ?_)
      refine ev_neG (α := List Str) (rα := inferInstance) hK2 (ev_madeRow hB2 hK2 r ws rfl rfl hsz (by omega) hro (fun h => absurd hrb h) (fun _ => ?_))
      rw [hd0]
      refine ⟨ws, rfl, ev_var rfl (neg_in (by decide) hok hok ?_)⟩
      rw [decide_eq_true rfl]
      exact ⟨fun h => absurd h (by decide), fun _ => sx_next ⟨_, rfl⟩⟩
    rintro Γ' ⟨o13, rfl⟩
    refine sx_seq (sx_if (et_or (et_test ?_)))
    refine ev_neG (α := Li3 Str Bool Bool) (rα := inferInstance) hK2 (ev_callR hB2 (ea_cons (ev_int (ea_cons (α := Int) (rα := inferInstance) (ev_var rfl ?_))))) 
    refine (ea_cons (ev_var rfl (ea_nil (md_dup hszt (by omega) (.inl ⟨rfl, rfl, _, rfl, Iff.rfl⟩) ⟨by omega, by rw [hlt]; omega⟩ hdt ⟨_, rfl, ?_⟩))))
    refine ev_lst3 (ev_ixL (α := Str) (rα := inferInstance) hK2 (ev_var rfl ?_))
    walk_at "g"
    refine ⟨wv, atI_last1 (by simp), ev_bl (ev_bl ?_)⟩
    refine neg_in (by decide) ?_ ?_ ?_
    · exact ⟨hok wv hwvm, trivial, trivial⟩
    · exact ⟨hok wv hwvm, trivial, trivial⟩
    rw [decide_eq_true rfl]
    refine ⟨fun h => absurd h (by decide), fun _ => et_test ?_⟩
    refine ev_neG (α := Li3 Str Bool Bool) (rα := inferInstance) hK2 (ev_callR hB2 (ea_cons (ev_int (ea_cons (ev_int ?_))))) 
    refine (ea_cons (ev_var rfl (ea_nil (md_dup hszd (by omega) (.inr (.inl ⟨rfl, rfl, _, rfl, Iff.rfl⟩)) ⟨by decide, by omega⟩ hdd ⟨_, rfl, ?_⟩))))
    refine ev_lst3 (ev_ixL (α := Str) (rα := inferInstance) hK2 (ev_var rfl (ev_int ⟨w0, atI_nat (j := 0) hw0e, ev_bl (ev_bl ?_)⟩)))
    refine neg_in (by decide) ?_ ?_ ?_
    · exact ⟨hok w0 hw0m, trivial, trivial⟩
    · exact ⟨hok w0 hw0m, trivial, trivial⟩
    rw [decide_eq_true rfl]
    refine ⟨fun h => absurd h (by decide), fun _ => ?_⟩
    refine sx_next ?_
    refine sx_seq (sx_if (et_or (et_test ?_)))
    refine ev_neG (α := Li3 Str Bool Bool) (rα := inferInstance) hK2 (ev_callR hB2 (ea_cons (ev_int (ea_cons (ev_cat (α := Int) (rα := inferInstance) (ev_var rfl (ev_lst (α := Int) (rα := inferInstance) (el_cons (ev_int (el_nil ⟨by show 1 ≤ 100000; decide, by show _ + 1 ≤ _; omega, ?_⟩)))))))))) 
    refine (ea_cons (ev_var rfl (ea_nil (md_dup hszt (by omega) (.inr (.inr ⟨rfl, rfl, _, rfl, Iff.rfl⟩)) ⟨by rw [List.length_append, hlt]; show _ + 1 = _; omega, fun w hw => (List.mem_append.mp hw).elim (fun h => by rw [ho1 w h]; decide) fun h => by rw [List.mem_singleton.mp h]; exact Int.le_refl _, by rw [List.sum_append, hos]; show (ws.length : Int) + (0 + 0) ≠ 0; omega⟩ hdt ⟨_, rfl, ?_⟩))))
    refine ev_lst3 (ev_ixL (α := Str) (rα := inferInstance) hK2 (ev_var rfl ?_))
    walk_at "g"
    refine ⟨wv, atI_last1 (by simp), ev_bl (ev_bl ?_)⟩
    refine neg_in (by decide) ?_ ?_ ?_
    · exact ⟨hok wv hwvm, trivial, trivial⟩
    · exact ⟨hok wv hwvm, trivial, trivial⟩
    rw [decide_eq_true rfl]
    refine ⟨fun h => absurd h (by decide), fun _ => et_test ?_⟩
    refine ev_neG (α := Str) (rα := inferInstance) hK2 (ev_ixLi3a (α := Str) (β := Bool) (γ := Bool) (rα := inferInstance) (rβ := inferInstance) (rγ := inferInstance) hK2 (ev_callR (rα := inferInstance) hB2 (ea_cons (ev_int (ea_cons (ev_opI (ev_var rfl (ev_int ?_))))))))
    refine ea_cons (ev_var rfl (ea_nil (md_bad (lbl := "rank") hszd (by omega) (.inl ⟨rfl, rfl, _, rfl, Iff.rfl⟩) (fun h => by have := h.2; omega) ⟨_, rfl, ?_⟩)))
    refine ev_str ?_
    refine neg_in (by decide) (strOk_of _) (strOk_of _) ?_
    rw [decide_eq_true rfl]
    refine ⟨fun h => absurd h (by decide), fun _ => ?_⟩
    refine sx_next ?_
    refine sx_seq (sx_if (et_or (et_test ?_)))
    refine ev_neG (α := Str) (rα := inferInstance) hK2 (ev_ixLi3a (α := Str) (β := Bool) (γ := Bool) (rα := inferInstance) (rβ := inferInstance) (rγ := inferInstance) hK2 (ev_callR (rα := inferInstance) hB2 (ea_cons (ev_int (ea_cons (ev_opI (ev_var rfl (ev_int ?_))))))))
    refine ea_cons (ev_var rfl (ea_nil (md_bad (lbl := "trim") hszd (by omega) (.inr (.inl ⟨rfl, rfl, _, rfl, Iff.rfl⟩)) (fun h => by have := h.2; omega) ⟨_, rfl, ?_⟩)))
    refine ev_str ?_
    refine neg_in (by decide) (strOk_of _) (strOk_of _) ?_
    rw [decide_eq_true rfl]
    refine ⟨fun h => absurd h (by decide), fun _ => et_test ?_⟩
    refine ev_neG (α := Str) (rα := inferInstance) hK2 (ev_ixLi3a (α := Str) (β := Bool) (γ := Bool) (rα := inferInstance) (rβ := inferInstance) (rγ := inferInstance) hK2 (ev_callR (rα := inferInstance) hB2 (ea_cons (ev_int (ea_cons (α := List Int) (rα := inferInstance) (ev_var rfl ?_))))))
    refine ea_cons (ev_var rfl (ea_nil (md_bad (lbl := "weigh") hszt (by omega) (.inr (.inr ⟨rfl, rfl, _, rfl, Iff.rfl⟩)) (fun h => by have := h.1; omega) ⟨_, rfl, ?_⟩)))
    refine ev_str ?_
    refine neg_in (by decide) (strOk_of _) (strOk_of _) ?_
    rw [decide_eq_true rfl]
    refine ⟨fun h => absurd h (by decide), fun _ => ?_⟩
    refine sx_next ?_
    refine sx_seq (sx_set (α := List Str) (rα := inferInstance) (ev_lst (α := Str) (rα := inferInstance) (el_cons (ev_str (el_cons (ev_str (el_cons (ev_str (el_cons (ev_str (el_cons (ev_str (el_cons (ev_str (el_cons (ev_str (el_cons (ev_str (el_nil ⟨by show 8 ≤ 100000; decide, ?_⟩)))))))))))))))))))
    show Sx W2 _ [none, some (T Bx.mk), some (T ws), some (T (ws.length : Int)), some (T (bad : List Rw)), some (T ones), none, some (T less), some (T (fair : List Rw)), some (T (ws ++ [wv])), some (T (at_ : Int)), some (T dbl), some (T (ws ++ [wl])), o13, some (T bareL), none] _
    refine sx_ret (ev_eqG (α := List Str) (rα := inferInstance) hK2 (evF_lcR ?_).k)
    walk_at "g"
    refine ⟨by decide, fun i (ys : List Str) => ys = bareL.take i, rfl, fun W' sb i ys hi hb => ⟨[15], rfl, ?_⟩, fun ys hb => ?_⟩
    · have hB' : W'.B = bs K A := sb.B.trans hB2
      have hK' : W'.B.K = K := congrArg Bs.K hB'
      have hi' : i < 8 := hi
      apply tj_name
      refine et_yes ⟨fun _ => ?_, fun h => (nomatch h)⟩
      refine ev_callR hB' (ea_cons (ev_var rfl (ea_cons (ev_ixL (α := Str) (rα := inferInstance) hK' (ev_var rfl (ev_int ⟨w0, atI_nat (j := 0) hw0e, ea_nil ⟨(i : Int), w0, rfl, by omega, by omega, ⟨_, rfl, ?_⟩⟩⟩))))))
      rw [hb, Int.toNat_natCast]
      have : i = 0 ∨ i = 1 ∨ i = 2 ∨ i = 3 ∨ i = 4 ∨ i = 5 ∨ i = 6 ∨ i = 7 := by omega
      rcases this with rfl | rfl | rfl | rfl | rfl | rfl | rfl | rfl <;> rfl
    have hb : ys = bareL := hb
    subst hb
    have hbo : ∀ w ∈ bareL, PyData.strOk w = true := fun w hw => by
      unfold bareL at hw
      simp only [List.mem_cons, List.not_mem_nil, or_false] at hw
      rcases hw with rfl | rfl | rfl | rfl | rfl | rfl | rfl | rfl <;> exact strOk_of _
    refine ev_var rfl (eqg_in (by decide) hbo hbo ?_)
    rw [decide_eq_true rfl]
end
theorem all_mk {l : PySem.W.OpenLaw} {w : World} {K : PySem.W.Frag} {h : Heap} {mg : Str → Option Value} {fa C_GaugeError C_BadGauge C_DuplicateGauge C_MissingReading C_BadRule C_Rule C_Leaf C_Rank C_Trim C_Weigh f1 f2 f3 f4 f5 f6 f7 f8 f9 f10 f11 f12 f13 f14 f15 f16 f17 f18 f19 f20 f21 f22 f23 : Addr} (X : K.In h) (G : h.Ns mainGlobals mg) (hfa : mg "law" = some (.ref fa))
    {od1 an1 : Option Addr} {sl1 : Array (Option Value)} {oc1 kV1 dc1 pm1 cd1 ct1 : Value} {od2 an2 : Option Addr} {sl2 : Array (Option Value)} {oc2 kV2 dc2 pm2 cd2 ct2 : Value} {od3 an3 : Option Addr} {sl3 : Array (Option Value)} {oc3 kV3 dc3 pm3 cd3 ct3 : Value} {od4 an4 : Option Addr} {sl4 : Array (Option Value)} {oc4 kV4 dc4 pm4 cd4 ct4 : Value} {od5 an5 : Option Addr} {sl5 : Array (Option Value)} {oc5 kV5 dc5 pm5 cd5 ct5 : Value} {od6 an6 : Option Addr} {sl6 : Array (Option Value)} {oc6 kV6 dc6 pm6 cd6 ct6 : Value} {od7 an7 : Option Addr} {sl7 : Array (Option Value)} {oc7 kV7 dc7 pm7 cd7 ct7 : Value} {od8 an8 : Option Addr} {sl8 : Array (Option Value)} {oc8 kV8 dc8 pm8 cd8 ct8 : Value} {od9 an9 : Option Addr} {sl9 : Array (Option Value)} {oc9 kV9 dc9 pm9 cd9 ct9 : Value} {od10 an10 : Option Addr} {sl10 : Array (Option Value)} {oc10 kV10 dc10 pm10 cd10 ct10 : Value} {od11 an11 : Option Addr} {sl11 : Array (Option Value)} {oc11 kV11 dc11 pm11 cd11 ct11 : Value} {od12 an12 : Option Addr} {sl12 : Array (Option Value)} {oc12 kV12 dc12 pm12 cd12 ct12 : Value} {od13 an13 : Option Addr} {sl13 : Array (Option Value)} {oc13 kV13 dc13 pm13 cd13 ct13 : Value} {od14 an14 : Option Addr} {sl14 : Array (Option Value)} {oc14 kV14 dc14 pm14 cd14 ct14 : Value} {od15 an15 : Option Addr} {sl15 : Array (Option Value)} {oc15 kV15 dc15 pm15 cd15 ct15 : Value} {od16 an16 : Option Addr} {sl16 : Array (Option Value)} {oc16 kV16 dc16 pm16 cd16 ct16 : Value} {od17 an17 : Option Addr} {sl17 : Array (Option Value)} {oc17 kV17 dc17 pm17 cd17 ct17 : Value} {od18 an18 : Option Addr} {sl18 : Array (Option Value)} {oc18 kV18 dc18 pm18 cd18 ct18 : Value} {od19 an19 : Option Addr} {sl19 : Array (Option Value)} {oc19 kV19 dc19 pm19 cd19 ct19 : Value} {od20 an20 : Option Addr} {sl20 : Array (Option Value)} {oc20 kV20 dc20 pm20 cd20 ct20 : Value} {od21 an21 : Option Addr} {sl21 : Array (Option Value)} {oc21 kV21 dc21 pm21 cd21 ct21 : Value} {od22 an22 : Option Addr} {sl22 : Array (Option Value)} {oc22 kV22 dc22 pm22 cd22 ct22 : Value} {od23 an23 : Option Addr} {sl23 : Array (Option Value)} {oc23 kV23 dc23 pm23 cd23 ct23 : Value} {nmBadGauge qBadGauge : Str} {NBadGauge : Addr} {bsBadGauge : List Value} {snBadGauge : List Str} {subBadGauge : List Value} {abBadGauge : Bool} {colBadGauge : Option Bool} {ddBadGauge : Option Addr} {m0BadGauge m1BadGauge m2BadGauge m3BadGauge m5BadGauge : Option Value} {nmDuplicateGauge qDuplicateGauge : Str} {NDuplicateGauge : Addr} {bsDuplicateGauge : List Value} {snDuplicateGauge : List Str} {subDuplicateGauge : List Value} {abDuplicateGauge : Bool} {colDuplicateGauge : Option Bool} {ddDuplicateGauge : Option Addr} {m0DuplicateGauge m1DuplicateGauge m2DuplicateGauge m3DuplicateGauge m5DuplicateGauge : Option Value} {nmMissingReading qMissingReading : Str} {NMissingReading : Addr} {bsMissingReading : List Value} {snMissingReading : List Str} {subMissingReading : List Value} {abMissingReading : Bool} {colMissingReading : Option Bool} {ddMissingReading : Option Addr} {m0MissingReading m1MissingReading m2MissingReading m3MissingReading m5MissingReading : Option Value} {nmBadRule qBadRule : Str} {NBadRule : Addr} {bsBadRule : List Value} {snBadRule : List Str} {subBadRule : List Value} {abBadRule : Bool} {colBadRule : Option Bool} {ddBadRule : Option Addr} {m0BadRule m1BadRule m2BadRule m3BadRule m5BadRule : Option Value} {p12 : Addr} {rs12 : List Value} {p14 : Addr} {rs14 : List Value} {p16 : Addr} {rs16 : List Value} {p17 : Addr} {rs17 : List Value} {p18 : Addr} {rs18 : List Value} {p19 : Addr} {rs19 : List Value} 
    (aC_GaugeError : PySem.W.nsIn K mainGlobals "GaugeError" = some (some (.ref C_GaugeError)))
    (aC_BadGauge : PySem.W.nsIn K mainGlobals "BadGauge" = some (some (.ref C_BadGauge)))
    (aC_DuplicateGauge : PySem.W.nsIn K mainGlobals "DuplicateGauge" = some (some (.ref C_DuplicateGauge)))
    (aC_MissingReading : PySem.W.nsIn K mainGlobals "MissingReading" = some (some (.ref C_MissingReading)))
    (aC_BadRule : PySem.W.nsIn K mainGlobals "BadRule" = some (some (.ref C_BadRule)))
    (aC_Rule : PySem.W.nsIn K mainGlobals "Rule" = some (some (.ref C_Rule)))
    (aC_Leaf : PySem.W.nsIn K mainGlobals "Leaf" = some (some (.ref C_Leaf)))
    (aC_Rank : PySem.W.nsIn K mainGlobals "Rank" = some (some (.ref C_Rank)))
    (aC_Trim : PySem.W.nsIn K mainGlobals "Trim" = some (some (.ref C_Trim)))
    (aC_Weigh : PySem.W.nsIn K mainGlobals "Weigh" = some (some (.ref C_Weigh)))
    (a1 : PySem.W.nsIn K mainGlobals "_law_take" = some (some (.ref f1)))
    (l1 : K.lookup f1 = some ⟨oc1, od1, .func (PySem.W.fnOf "_law_take" "_law_take" (defArgs s_take) (defBody s_take) (defScope s_take) .none kV1 dc1 pm1 an1 cd1 ct1), sl1⟩)
    (c1 : PySem.W.codeIn K cd1 "_law_take" = true)
    (k1 : PySem.W.keepIn K (.ref f1) = true)
    (a2 : PySem.W.nsIn K mainGlobals "_law_box" = some (some (.ref f2)))
    (l2 : K.lookup f2 = some ⟨oc2, od2, .func (PySem.W.fnOf "_law_box" "_law_box" (defArgs s_box) (defBody s_box) (defScope s_box) .none kV2 dc2 pm2 an2 cd2 ct2), sl2⟩)
    (c2 : PySem.W.codeIn K cd2 "_law_box" = true)
    (k2 : PySem.W.keepIn K (.ref f2) = true)
    (a3 : PySem.W.nsIn K mainGlobals "_law_word" = some (some (.ref f3)))
    (l3 : K.lookup f3 = some ⟨oc3, od3, .func (PySem.W.fnOf "_law_word" "_law_word" (defArgs s_word) (defBody s_word) (defScope s_word) .none kV3 dc3 pm3 an3 cd3 ct3), sl3⟩)
    (c3 : PySem.W.codeIn K cd3 "_law_word" = true)
    (k3 : PySem.W.keepIn K (.ref f3) = true)
    (a4 : PySem.W.nsIn K mainGlobals "_law_words" = some (some (.ref f4)))
    (l4 : K.lookup f4 = some ⟨oc4, od4, .func (PySem.W.fnOf "_law_words" "_law_words" (defArgs s_words) (defBody s_words) (defScope s_words) .none kV4 dc4 pm4 an4 cd4 ct4), sl4⟩)
    (c4 : PySem.W.codeIn K cd4 "_law_words" = true)
    (k4 : PySem.W.keepIn K (.ref f4) = true)
    (a5 : PySem.W.findIn K (.ref C_DuplicateGauge) "__init__" = some (some (.ref f5)))
    (i5 : PySem.W.isFn K (.ref f5) = true)
    (l5 : K.lookup f5 = some ⟨oc5, od5, .func (PySem.W.fnOf "__init__" "DuplicateGauge.__init__" (defArgs s_DuplicateGauge_init) (defBody s_DuplicateGauge_init) (defScope s_DuplicateGauge_init) .none kV5 dc5 pm5 an5 cd5 ct5), sl5⟩)
    (c5 : PySem.W.codeIn K cd5 "DuplicateGauge.__init__" = true)
    (k5 : PySem.W.keepIn K (.ref f5) = true)
    (ty_DuplicateGauge : PySem.W.typeIn K (.ref f5) = some (.type "function"))
    (a6 : PySem.W.findIn K (.ref C_BadRule) "__init__" = some (some (.ref f6)))
    (i6 : PySem.W.isFn K (.ref f6) = true)
    (l6 : K.lookup f6 = some ⟨oc6, od6, .func (PySem.W.fnOf "__init__" "BadRule.__init__" (defArgs s_BadRule_init) (defBody s_BadRule_init) (defScope s_BadRule_init) .none kV6 dc6 pm6 an6 cd6 ct6), sl6⟩)
    (c6 : PySem.W.codeIn K cd6 "BadRule.__init__" = true)
    (k6 : PySem.W.keepIn K (.ref f6) = true)
    (ty_BadRule : PySem.W.typeIn K (.ref f6) = some (.type "function"))
    (a7 : PySem.W.findIn K (.ref C_Leaf) "names" = some (some (.ref f7)))
    (i7 : PySem.W.isFn K (.ref f7) = true)
    (l7 : K.lookup f7 = some ⟨oc7, od7, .func (PySem.W.fnOf "names" "Leaf.names" (defArgs s_Leaf_names) (defBody s_Leaf_names) (defScope s_Leaf_names) .none kV7 dc7 pm7 an7 cd7 ct7), sl7⟩)
    (c7 : PySem.W.codeIn K cd7 "Leaf.names" = true)
    (k7 : PySem.W.keepIn K (.ref f7) = true)
    (a8 : PySem.W.findIn K (.ref C_Rule) "names" = some (some (.ref f8)))
    (i8 : PySem.W.isFn K (.ref f8) = true)
    (l8 : K.lookup f8 = some ⟨oc8, od8, .func (PySem.W.fnOf "names" "Rule.names" (defArgs s_Rule_names) (defBody s_Rule_names) (defScope s_Rule_names) .none kV8 dc8 pm8 an8 cd8 ct8), sl8⟩)
    (c8 : PySem.W.codeIn K cd8 "Rule.names" = true)
    (k8 : PySem.W.keepIn K (.ref f8) = true)
    (a9 : PySem.W.findIn K (.ref C_Rule) "__init__" = some (some (.ref f9)))
    (i9 : PySem.W.isFn K (.ref f9) = true)
    (l9 : K.lookup f9 = some ⟨oc9, od9, .func (PySem.W.fnOf "__init__" "Rule.__init__" (defArgs s_Rule_init) (defBody s_Rule_init) (defScope s_Rule_init) .none kV9 dc9 pm9 an9 cd9 ct9), sl9⟩)
    (c9 : PySem.W.codeIn K cd9 "Rule.__init__" = true)
    (k9 : PySem.W.keepIn K (.ref f9) = true)
    (mk_Rule : PySem.W.makesIn K C_Rule = true)
    (kc_Rule : PySem.W.keepIn K (.ref C_Rule) = true)
    (a10 : PySem.W.findIn K (.ref C_Leaf) "__init__" = some (some (.ref f10)))
    (i10 : PySem.W.isFn K (.ref f10) = true)
    (l10 : K.lookup f10 = some ⟨oc10, od10, .func (PySem.W.fnOf "__init__" "Leaf.__init__" (defArgs s_Leaf_init) (defBody s_Leaf_init) (defScope s_Leaf_init) .none kV10 dc10 pm10 an10 cd10 ct10), sl10⟩)
    (c10 : PySem.W.codeIn K cd10 "Leaf.__init__" = true)
    (k10 : PySem.W.keepIn K (.ref f10) = true)
    (mk_Leaf : PySem.W.makesIn K C_Leaf = true)
    (kc_Leaf : PySem.W.keepIn K (.ref C_Leaf) = true)
    (a11 : PySem.W.findIn K (.ref C_Rank) "__init__" = some (some (.ref f11)))
    (i11 : PySem.W.isFn K (.ref f11) = true)
    (l11 : K.lookup f11 = some ⟨oc11, od11, .func (PySem.W.fnOf "__init__" "Rank.__init__" (defArgs s_Rank_init) (defBody s_Rank_init) (defScope s_Rank_init) .none kV11 dc11 pm11 an11 cd11 ct11), sl11⟩)
    (c11 : PySem.W.codeIn K cd11 "Rank.__init__" = true)
    (k11 : PySem.W.keepIn K (.ref f11) = true)
    (mk_Rank : PySem.W.makesIn K C_Rank = true)
    (kc_Rank : PySem.W.keepIn K (.ref C_Rank) = true)
    (cg_Rank : PySem.W.specialIn K (.ref C_Rank) "__getattribute__" = some (some (.builtin "type.__getattribute__")))
    (cr_Rank : PySem.W.readsIn K C_Rank (.type "type") = true)
    (ma12 : PySem.W.findCls K (.ref C_Rank) (.type "type") "of" = some (.get (.builtin "classmethod.__get__") (.ref p12) .none (.ref C_Rank)))
    (mr12 : PySem.W.recIn K p12 "classmethod" = some (.ref f12 :: rs12))
    (mf12 : PySem.W.fnIn K f12 = true)
    (l12 : K.lookup f12 = some ⟨oc12, od12, .func (PySem.W.fnOf "of" "Rank.of" (defArgs s_Rank_of) (defBody s_Rank_of) (defScope s_Rank_of) .none kV12 dc12 pm12 an12 cd12 ct12), sl12⟩)
    (c12 : PySem.W.codeIn K cd12 "Rank.of" = true)
    (k12 : PySem.W.keepIn K (.ref f12) = true)
    (a13 : PySem.W.findIn K (.ref C_Trim) "__init__" = some (some (.ref f13)))
    (i13 : PySem.W.isFn K (.ref f13) = true)
    (l13 : K.lookup f13 = some ⟨oc13, od13, .func (PySem.W.fnOf "__init__" "Trim.__init__" (defArgs s_Trim_init) (defBody s_Trim_init) (defScope s_Trim_init) .none kV13 dc13 pm13 an13 cd13 ct13), sl13⟩)
    (c13 : PySem.W.codeIn K cd13 "Trim.__init__" = true)
    (k13 : PySem.W.keepIn K (.ref f13) = true)
    (mk_Trim : PySem.W.makesIn K C_Trim = true)
    (kc_Trim : PySem.W.keepIn K (.ref C_Trim) = true)
    (cg_Trim : PySem.W.specialIn K (.ref C_Trim) "__getattribute__" = some (some (.builtin "type.__getattribute__")))
    (cr_Trim : PySem.W.readsIn K C_Trim (.type "type") = true)
    (ma14 : PySem.W.findCls K (.ref C_Trim) (.type "type") "of" = some (.get (.builtin "classmethod.__get__") (.ref p14) .none (.ref C_Trim)))
    (mr14 : PySem.W.recIn K p14 "classmethod" = some (.ref f14 :: rs14))
    (mf14 : PySem.W.fnIn K f14 = true)
    (l14 : K.lookup f14 = some ⟨oc14, od14, .func (PySem.W.fnOf "of" "Trim.of" (defArgs s_Trim_of) (defBody s_Trim_of) (defScope s_Trim_of) .none kV14 dc14 pm14 an14 cd14 ct14), sl14⟩)
    (c14 : PySem.W.codeIn K cd14 "Trim.of" = true)
    (k14 : PySem.W.keepIn K (.ref f14) = true)
    (a15 : PySem.W.findIn K (.ref C_Weigh) "__init__" = some (some (.ref f15)))
    (i15 : PySem.W.isFn K (.ref f15) = true)
    (l15 : K.lookup f15 = some ⟨oc15, od15, .func (PySem.W.fnOf "__init__" "Weigh.__init__" (defArgs s_Weigh_init) (defBody s_Weigh_init) (defScope s_Weigh_init) .none kV15 dc15 pm15 an15 cd15 ct15), sl15⟩)
    (c15 : PySem.W.codeIn K cd15 "Weigh.__init__" = true)
    (k15 : PySem.W.keepIn K (.ref f15) = true)
    (mk_Weigh : PySem.W.makesIn K C_Weigh = true)
    (kc_Weigh : PySem.W.keepIn K (.ref C_Weigh) = true)
    (cg_Weigh : PySem.W.specialIn K (.ref C_Weigh) "__getattribute__" = some (some (.builtin "type.__getattribute__")))
    (cr_Weigh : PySem.W.readsIn K C_Weigh (.type "type") = true)
    (ma16 : PySem.W.findCls K (.ref C_Weigh) (.type "type") "of" = some (.get (.builtin "classmethod.__get__") (.ref p16) .none (.ref C_Weigh)))
    (mr16 : PySem.W.recIn K p16 "classmethod" = some (.ref f16 :: rs16))
    (mf16 : PySem.W.fnIn K f16 = true)
    (l16 : K.lookup f16 = some ⟨oc16, od16, .func (PySem.W.fnOf "of" "Weigh.of" (defArgs s_Weigh_of) (defBody s_Weigh_of) (defScope s_Weigh_of) .none kV16 dc16 pm16 an16 cd16 ct16), sl16⟩)
    (c16 : PySem.W.codeIn K cd16 "Weigh.of" = true)
    (k16 : PySem.W.keepIn K (.ref f16) = true)
    (ma17 : PySem.W.findCls K (.ref C_Rank) (.type "type") "least" = some (.get (.builtin "classmethod.__get__") (.ref p17) .none (.ref C_Rank)))
    (mr17 : PySem.W.recIn K p17 "classmethod" = some (.ref f17 :: rs17))
    (mf17 : PySem.W.fnIn K f17 = true)
    (l17 : K.lookup f17 = some ⟨oc17, od17, .func (PySem.W.fnOf "least" "Rank.least" (defArgs s_Rank_least) (defBody s_Rank_least) (defScope s_Rank_least) .none kV17 dc17 pm17 an17 cd17 ct17), sl17⟩)
    (c17 : PySem.W.codeIn K cd17 "Rank.least" = true)
    (k17 : PySem.W.keepIn K (.ref f17) = true)
    (ma18 : PySem.W.findCls K (.ref C_Rank) (.type "type") "greatest" = some (.get (.builtin "classmethod.__get__") (.ref p18) .none (.ref C_Rank)))
    (mr18 : PySem.W.recIn K p18 "classmethod" = some (.ref f18 :: rs18))
    (mf18 : PySem.W.fnIn K f18 = true)
    (l18 : K.lookup f18 = some ⟨oc18, od18, .func (PySem.W.fnOf "greatest" "Rank.greatest" (defArgs s_Rank_greatest) (defBody s_Rank_greatest) (defScope s_Rank_greatest) .none kV18 dc18 pm18 an18 cd18 ct18), sl18⟩)
    (c18 : PySem.W.codeIn K cd18 "Rank.greatest" = true)
    (k18 : PySem.W.keepIn K (.ref f18) = true)
    (ma19 : PySem.W.findCls K (.ref C_Rank) (.type "type") "median" = some (.get (.builtin "classmethod.__get__") (.ref p19) .none (.ref C_Rank)))
    (mr19 : PySem.W.recIn K p19 "classmethod" = some (.ref f19 :: rs19))
    (mf19 : PySem.W.fnIn K f19 = true)
    (l19 : K.lookup f19 = some ⟨oc19, od19, .func (PySem.W.fnOf "median" "Rank.median" (defArgs s_Rank_median) (defBody s_Rank_median) (defScope s_Rank_median) .none kV19 dc19 pm19 an19 cd19 ct19), sl19⟩)
    (c19 : PySem.W.codeIn K cd19 "Rank.median" = true)
    (k19 : PySem.W.keepIn K (.ref f19) = true)
    (a20 : PySem.W.nsIn K mainGlobals "_law_made" = some (some (.ref f20)))
    (l20 : K.lookup f20 = some ⟨oc20, od20, .func (PySem.W.fnOf "_law_made" "_law_made" (defArgs s_made) (defBody s_made) (defScope s_made) .none kV20 dc20 pm20 an20 cd20 ct20), sl20⟩)
    (c20 : PySem.W.codeIn K cd20 "_law_made" = true)
    (k20 : PySem.W.keepIn K (.ref f20) = true)
    (a21 : PySem.W.nsIn K mainGlobals "_law_bare" = some (some (.ref f21)))
    (l21 : K.lookup f21 = some ⟨oc21, od21, .func (PySem.W.fnOf "_law_bare" "_law_bare" (defArgs s_bare) (defBody s_bare) (defScope s_bare) .none kV21 dc21 pm21 an21 cd21 ct21), sl21⟩)
    (c21 : PySem.W.codeIn K cd21 "_law_bare" = true)
    (k21 : PySem.W.keepIn K (.ref f21) = true)
    (a22 : PySem.W.nsIn K mainGlobals "_law_nested" = some (some (.ref f22)))
    (l22 : K.lookup f22 = some ⟨oc22, od22, .func (PySem.W.fnOf "_law_nested" "_law_nested" (defArgs s_nested) (defBody s_nested) (defScope s_nested) .none kV22 dc22 pm22 an22 cd22 ct22), sl22⟩)
    (c22 : PySem.W.codeIn K cd22 "_law_nested" = true)
    (k22 : PySem.W.keepIn K (.ref f22) = true)
    (a23 : PySem.W.nsIn K mainGlobals "law" = some (some (.ref f23)))
    (l23 : K.lookup f23 = some ⟨oc23, od23, .func (PySem.W.fnOf "law" "law" (defArgs s_law) (defBody s_law) (defScope s_law) .none kV23 dc23 pm23 an23 cd23 ct23), sl23⟩)
    (c23 : PySem.W.codeIn K cd23 "law" = true)
    (k23 : PySem.W.keepIn K (.ref f23) = true)
    (ge_ga : PySem.W.specialIn K (.ref C_GaugeError) "__getattribute__" = some (some (.builtin "type.__getattribute__")))
    (ge_rd : PySem.W.readsIn K C_GaugeError (.type "type") = true)
    (ge_at : PySem.W.findCls K (.ref C_GaugeError) (.type "type") "__init__" = some (.val (.builtin "ValueError.__init__")))
    (xL_BadGauge : K.lookup C_BadGauge = some (excClassObj nmBadGauge qBadGauge C_BadGauge NBadGauge bsBadGauge [.ref C_GaugeError, .type "ValueError", .type "Exception", .type "BaseException", .type "object"] true snBadGauge subBadGauge abBadGauge colBadGauge ddBadGauge m0BadGauge m1BadGauge m2BadGauge m3BadGauge m5BadGauge "ValueError.__new__"))
    (xsa_BadGauge : PySem.W.findIn K (.ref C_BadGauge) "__setattr__" = some (some (.builtin "object.__setattr__")))
    (xga_BadGauge : PySem.W.findIn K (.ref C_BadGauge) "__getattribute__" = some (some (.builtin "BaseException.__getattribute__")))
    (xgg_BadGauge : PySem.W.findIn K (.ref C_BadGauge) "__getattr__" = some none)
    (xkC_BadGauge : PySem.W.keepIn K (.ref C_BadGauge) = true)
    (xeC_BadGauge : PySem.W.subIn K (.ref C_BadGauge) (.type "BaseException") = some true)
    (xtC_BadGauge : PySem.W.typeIn K (.ref C_BadGauge) = some (.type "type"))
    (xhC_BadGauge : PySem.W.hasDictIn K C_BadGauge = true)
    (xic_BadGauge : PySem.W.isClsIn K C_BadGauge = true)
    (n_BadGauge_name : PySem.W.findIn K (.ref C_BadGauge) "name" = some none)
    (xL_DuplicateGauge : K.lookup C_DuplicateGauge = some (excClassObj nmDuplicateGauge qDuplicateGauge C_DuplicateGauge NDuplicateGauge bsDuplicateGauge [.ref C_GaugeError, .type "ValueError", .type "Exception", .type "BaseException", .type "object"] true snDuplicateGauge subDuplicateGauge abDuplicateGauge colDuplicateGauge ddDuplicateGauge m0DuplicateGauge m1DuplicateGauge m2DuplicateGauge m3DuplicateGauge m5DuplicateGauge "ValueError.__new__"))
    (xsa_DuplicateGauge : PySem.W.findIn K (.ref C_DuplicateGauge) "__setattr__" = some (some (.builtin "object.__setattr__")))
    (xga_DuplicateGauge : PySem.W.findIn K (.ref C_DuplicateGauge) "__getattribute__" = some (some (.builtin "BaseException.__getattribute__")))
    (xgg_DuplicateGauge : PySem.W.findIn K (.ref C_DuplicateGauge) "__getattr__" = some none)
    (xkC_DuplicateGauge : PySem.W.keepIn K (.ref C_DuplicateGauge) = true)
    (xeC_DuplicateGauge : PySem.W.subIn K (.ref C_DuplicateGauge) (.type "BaseException") = some true)
    (xtC_DuplicateGauge : PySem.W.typeIn K (.ref C_DuplicateGauge) = some (.type "type"))
    (xhC_DuplicateGauge : PySem.W.hasDictIn K C_DuplicateGauge = true)
    (xic_DuplicateGauge : PySem.W.isClsIn K C_DuplicateGauge = true)
    (n_DuplicateGauge_name : PySem.W.findIn K (.ref C_DuplicateGauge) "name" = some none)
    (xs_DuplicateGauge_DuplicateGauge : PySem.W.subIn K (.ref C_DuplicateGauge) (.ref C_DuplicateGauge) = some true)
    (xL_MissingReading : K.lookup C_MissingReading = some (excClassObj nmMissingReading qMissingReading C_MissingReading NMissingReading bsMissingReading [.ref C_GaugeError, .type "ValueError", .type "Exception", .type "BaseException", .type "object"] true snMissingReading subMissingReading abMissingReading colMissingReading ddMissingReading m0MissingReading m1MissingReading m2MissingReading m3MissingReading m5MissingReading "ValueError.__new__"))
    (xsa_MissingReading : PySem.W.findIn K (.ref C_MissingReading) "__setattr__" = some (some (.builtin "object.__setattr__")))
    (xga_MissingReading : PySem.W.findIn K (.ref C_MissingReading) "__getattribute__" = some (some (.builtin "BaseException.__getattribute__")))
    (xgg_MissingReading : PySem.W.findIn K (.ref C_MissingReading) "__getattr__" = some none)
    (xkC_MissingReading : PySem.W.keepIn K (.ref C_MissingReading) = true)
    (xeC_MissingReading : PySem.W.subIn K (.ref C_MissingReading) (.type "BaseException") = some true)
    (xtC_MissingReading : PySem.W.typeIn K (.ref C_MissingReading) = some (.type "type"))
    (xhC_MissingReading : PySem.W.hasDictIn K C_MissingReading = true)
    (xic_MissingReading : PySem.W.isClsIn K C_MissingReading = true)
    (n_MissingReading_name : PySem.W.findIn K (.ref C_MissingReading) "name" = some none)
    (xL_BadRule : K.lookup C_BadRule = some (excClassObj nmBadRule qBadRule C_BadRule NBadRule bsBadRule [.ref C_GaugeError, .type "ValueError", .type "Exception", .type "BaseException", .type "object"] true snBadRule subBadRule abBadRule colBadRule ddBadRule m0BadRule m1BadRule m2BadRule m3BadRule m5BadRule "ValueError.__new__"))
    (xsa_BadRule : PySem.W.findIn K (.ref C_BadRule) "__setattr__" = some (some (.builtin "object.__setattr__")))
    (xga_BadRule : PySem.W.findIn K (.ref C_BadRule) "__getattribute__" = some (some (.builtin "BaseException.__getattribute__")))
    (xgg_BadRule : PySem.W.findIn K (.ref C_BadRule) "__getattr__" = some none)
    (xkC_BadRule : PySem.W.keepIn K (.ref C_BadRule) = true)
    (xeC_BadRule : PySem.W.subIn K (.ref C_BadRule) (.type "BaseException") = some true)
    (xtC_BadRule : PySem.W.typeIn K (.ref C_BadRule) = some (.type "type"))
    (xhC_BadRule : PySem.W.hasDictIn K C_BadRule = true)
    (xic_BadRule : PySem.W.isClsIn K C_BadRule = true)
    (n_BadRule_kind : PySem.W.findIn K (.ref C_BadRule) "kind" = some none)
    (xs_BadRule_BadRule : PySem.W.subIn K (.ref C_BadRule) (.ref C_BadRule) = some true)
    (pg_Leaf : PySem.W.plainGet K C_Leaf Str.empty = true)
    (hd_Leaf : PySem.W.hasDictIn K C_Leaf = true)
    (po_Leaf : PySem.W.plainOver K C_Leaf = true)
    (sa_Leaf : PySem.W.findIn K (.ref C_Leaf) "__setattr__" = some (some (.builtin "object.__setattr__")))
    (cc_Leaf : PySem.W.findIn K (.ref C_Leaf) "__class__" = some (some (.builtin "object.__class__")))
    (oc_s : PySem.W.specialIn K (.builtin "object.__class__") "__get__" = some (some (.builtin "getset_descriptor.__get__")))
    (oc_t : PySem.W.takesIn K (.builtin "object.__class__") = some true)
    (mo_Leaf : PySem.W.mroIn K C_Leaf (.type "object") = some true)
    (n_Leaf_label : PySem.W.findIn K (.ref C_Leaf) "label" = some none)
    (n_Leaf_numbers : PySem.W.findIn K (.ref C_Leaf) "numbers" = some none)
    (n_Leaf_parts : PySem.W.findIn K (.ref C_Leaf) "parts" = some none)
    (n_Leaf_ranked : PySem.W.findIn K (.ref C_Leaf) "ranked" = some none)
    (pg_Rank : PySem.W.plainGet K C_Rank Str.empty = true)
    (hd_Rank : PySem.W.hasDictIn K C_Rank = true)
    (po_Rank : PySem.W.plainOver K C_Rank = true)
    (sa_Rank : PySem.W.findIn K (.ref C_Rank) "__setattr__" = some (some (.builtin "object.__setattr__")))
    (cc_Rank : PySem.W.findIn K (.ref C_Rank) "__class__" = some (some (.builtin "object.__class__")))
    (mo_Rank : PySem.W.mroIn K C_Rank (.type "object") = some true)
    (n_Rank_label : PySem.W.findIn K (.ref C_Rank) "label" = some none)
    (n_Rank_numbers : PySem.W.findIn K (.ref C_Rank) "numbers" = some none)
    (n_Rank_parts : PySem.W.findIn K (.ref C_Rank) "parts" = some none)
    (n_Rank_ranked : PySem.W.findIn K (.ref C_Rank) "ranked" = some none)
    (pg_Trim : PySem.W.plainGet K C_Trim Str.empty = true)
    (hd_Trim : PySem.W.hasDictIn K C_Trim = true)
    (po_Trim : PySem.W.plainOver K C_Trim = true)
    (sa_Trim : PySem.W.findIn K (.ref C_Trim) "__setattr__" = some (some (.builtin "object.__setattr__")))
    (cc_Trim : PySem.W.findIn K (.ref C_Trim) "__class__" = some (some (.builtin "object.__class__")))
    (mo_Trim : PySem.W.mroIn K C_Trim (.type "object") = some true)
    (n_Trim_label : PySem.W.findIn K (.ref C_Trim) "label" = some none)
    (n_Trim_numbers : PySem.W.findIn K (.ref C_Trim) "numbers" = some none)
    (n_Trim_parts : PySem.W.findIn K (.ref C_Trim) "parts" = some none)
    (n_Trim_ranked : PySem.W.findIn K (.ref C_Trim) "ranked" = some none)
    (pg_Weigh : PySem.W.plainGet K C_Weigh Str.empty = true)
    (hd_Weigh : PySem.W.hasDictIn K C_Weigh = true)
    (po_Weigh : PySem.W.plainOver K C_Weigh = true)
    (sa_Weigh : PySem.W.findIn K (.ref C_Weigh) "__setattr__" = some (some (.builtin "object.__setattr__")))
    (cc_Weigh : PySem.W.findIn K (.ref C_Weigh) "__class__" = some (some (.builtin "object.__class__")))
    (mo_Weigh : PySem.W.mroIn K C_Weigh (.type "object") = some true)
    (n_Weigh_label : PySem.W.findIn K (.ref C_Weigh) "label" = some none)
    (n_Weigh_numbers : PySem.W.findIn K (.ref C_Weigh) "numbers" = some none)
    (n_Weigh_parts : PySem.W.findIn K (.ref C_Weigh) "parts" = some none)
    (n_Weigh_ranked : PySem.W.findIn K (.ref C_Weigh) "ranked" = some none)
    (xs_DuplicateGauge_BadRule : PySem.W.subIn K (.ref C_DuplicateGauge) (.ref C_BadRule) = some false)
    (xcc_BadRule : PySem.W.findIn K (.ref C_BadRule) "__class__" = some (some (.builtin "object.__class__")))
    (xmo_BadRule : PySem.W.mroIn K C_BadRule (.type "object") = some true)
    (xs_BadRule_DuplicateGauge : PySem.W.subIn K (.ref C_BadRule) (.ref C_DuplicateGauge) = some false)
    (xn_BadRule_DuplicateGauge : (Value.ref C_BadRule == Value.ref C_DuplicateGauge) = false)
    (xic_GaugeError : PySem.W.isClsIn K C_GaugeError = true)
    (xtC_GaugeError : PySem.W.typeIn K (.ref C_GaugeError) = some (.type "type"))
    (xs_BadRule_GaugeError : PySem.W.subIn K (.ref C_BadRule) (.ref C_GaugeError) = some true)
    (xcc_DuplicateGauge : PySem.W.findIn K (.ref C_DuplicateGauge) "__class__" = some (some (.builtin "object.__class__")))
    (xmo_DuplicateGauge : PySem.W.mroIn K C_DuplicateGauge (.type "object") = some true)
    (xs_DuplicateGauge_BadGauge : PySem.W.subIn K (.ref C_DuplicateGauge) (.ref C_BadGauge) = some false)
    (xn_DuplicateGauge_BadGauge : (Value.ref C_DuplicateGauge == Value.ref C_BadGauge) = false)
    (xs_DuplicateGauge_GaugeError : PySem.W.subIn K (.ref C_DuplicateGauge) (.ref C_GaugeError) = some true)
    (cg_Rule : PySem.W.specialIn K (.ref C_Rule) "__getattribute__" = some (some (.builtin "type.__getattribute__")))
    (cr_Rule : PySem.W.readsIn K C_Rule (.type "type") = true)
    (ca_Rule : PySem.W.findCls K (.ref C_Rule) (.type "type") "__init__" = some (.val (.ref f9)))
    (va_Leaf_names : PySem.W.findIn K (.ref C_Leaf) "names" = some (some (.ref f7)))
    (va_Rank_names : PySem.W.findIn K (.ref C_Rank) "names" = some (some (.ref f8)))
    (va_Trim_names : PySem.W.findIn K (.ref C_Trim) "names" = some (some (.ref f8)))
    (va_Weigh_names : PySem.W.findIn K (.ref C_Weigh) "names" = some (some (.ref f8)))
    (z_all : PySem.W.nsIn K mainGlobals "all" = some none)
    (z_any : PySem.W.nsIn K mainGlobals "any" = some none)
    (z_enumerate : PySem.W.nsIn K mainGlobals "enumerate" = some none)
    (z_int : PySem.W.nsIn K mainGlobals "int" = some none)
    (z_isinstance : PySem.W.nsIn K mainGlobals "isinstance" = some none)
    (z_len : PySem.W.nsIn K mainGlobals "len" = some none)
    (z_list : PySem.W.nsIn K mainGlobals "list" = some none)
    (z_range : PySem.W.nsIn K mainGlobals "range" = some none)
    (z_sum : PySem.W.nsIn K mainGlobals "sum" = some none)
    (z_tuple : PySem.W.nsIn K mainGlobals "tuple" = some none) :
    ∃ fd : FuncData, (∀ (s : Shared) (v : Value), BindsTo s fd ⟨[v], []⟩ [("_law_script", v)]) ∧ ∀ base : Heap, K.In base → base.Ns mainGlobals mg → FnOk l.prog w K mg base CX0 17 fa fd ["_law_script"] (spLaw K) := by
  have e := hfa.symm.trans (PySem.W.mg_of X G a23)
  cases e
  have tx : Txt K mg ⟨C_GaugeError, C_BadGauge, C_DuplicateGauge, C_MissingReading, C_BadRule, C_Rule, C_Leaf, C_Rank, C_Trim, C_Weigh, f1, f2, f3, f4, f5, f6, f7, f8, f9, f10, f11, f12, f13, f14, f15, f16, f17, f18, f19, f20, f21, f22, fa⟩ := ⟨⟨⟨_, fun_mk (st := s_take) l1 c1 k1, (fun_mk (st := s_take) l1 c1 k1).binds (ps := ["_law_box_here", "_law_many"]) fun _ _ _ _ _ _ us hl => match us, hl with | [_, _], _ => rfl⟩, PySem.W.mg_of X G a1, k1⟩,
    ⟨⟨_, fun_mk (st := s_box) l2 c2 k2, (fun_mk (st := s_box) l2 c2 k2).binds (ps := ["_law_script", "_law_salt"]) fun _ _ _ _ _ _ us hl => match us, hl with | [_, _], _ => rfl⟩, PySem.W.mg_of X G a2, k2⟩,
    ⟨⟨_, fun_mk (st := s_word) l3 c3 k3, (fun_mk (st := s_word) l3 c3 k3).binds (ps := ["_law_number", "_law_many", "_law_back"]) fun _ _ _ _ _ _ us hl => match us, hl with | [_, _, _], _ => rfl⟩, PySem.W.mg_of X G a3, k3⟩,
    ⟨⟨_, fun_mk (st := s_words) l4 c4 k4, (fun_mk (st := s_words) l4 c4 k4).binds (ps := ["_law_box_here", "_law_many"]) fun _ _ _ _ _ _ us hl => match us, hl with | [_, _], _ => rfl⟩, PySem.W.mg_of X G a4, k4⟩,
    ⟨_, fun_mk (st := s_DuplicateGauge_init) l5 c5 k5, (fun_mk (st := s_DuplicateGauge_init) l5 c5 k5).binds (ps := ["self", "name"]) fun _ _ _ _ _ _ us hl => match us, hl with | [_, _], _ => rfl⟩,
    a5,
    ty_DuplicateGauge,
    ⟨_, fun_mk (st := s_BadRule_init) l6 c6 k6, (fun_mk (st := s_BadRule_init) l6 c6 k6).binds (ps := ["self", "kind"]) fun _ _ _ _ _ _ us hl => match us, hl with | [_, _], _ => rfl⟩,
    a6,
    ty_BadRule,
    ⟨_, fun_mk (st := s_Leaf_names) l7 c7 k7, (fun_mk (st := s_Leaf_names) l7 c7 k7).binds (ps := ["self"]) fun _ _ _ _ _ _ us hl => match us, hl with | [_], _ => rfl⟩,
    ⟨a7, i7, k7⟩,
    ⟨_, fun_mk (st := s_Rule_names) l8 c8 k8, (fun_mk (st := s_Rule_names) l8 c8 k8).binds (ps := ["self"]) fun _ _ _ _ _ _ us hl => match us, hl with | [_], _ => rfl⟩,
    ⟨a8, i8, k8⟩,
    ⟨_, fun_mk (st := s_Rule_init) l9 c9 k9, (fun_mk (st := s_Rule_init) l9 c9 k9).binds (ps := ["self", "label", "numbers", "parts"]) fun _ _ _ _ _ _ us hl => match us, hl with | [_, _, _, _], _ => rfl⟩,
    ⟨mk_Rule, a9, i9, kc_Rule⟩,
    ⟨_, fun_mk (st := s_Leaf_init) l10 c10 k10, (fun_mk (st := s_Leaf_init) l10 c10 k10).binds (ps := ["self", "name"]) fun _ _ _ _ _ _ us hl => match us, hl with | [_, _], _ => rfl⟩,
    ⟨mk_Leaf, a10, i10, kc_Leaf⟩,
    defS2 (fun_mk (st := s_Rank_init) l11 c11 k11) (fun a b => rfl) (fun a b r rs => rfl),
    ⟨mk_Rank, a11, i11, kc_Rank⟩,
    ⟨cr_Rank, cg_Rank⟩,
    ⟨_, ma12, ⟨_, mr12⟩, mf12⟩,
    ⟨_, fun_mk (st := s_Rank_of) l12 c12 k12, (fun_mk (st := s_Rank_of) l12 c12 k12).binds (ps := ["cls", "place", "parts"]) fun _ _ _ _ _ _ us hl => match us, hl with | [_, _, _], _ => rfl⟩,
    defS2 (fun_mk (st := s_Trim_init) l13 c13 k13) (fun a b => rfl) (fun a b r rs => rfl),
    ⟨mk_Trim, a13, i13, kc_Trim⟩,
    ⟨cr_Trim, cg_Trim⟩,
    ⟨_, ma14, ⟨_, mr14⟩, mf14⟩,
    ⟨_, fun_mk (st := s_Trim_of) l14 c14 k14, (fun_mk (st := s_Trim_of) l14 c14 k14).binds (ps := ["cls", "cut", "parts"]) fun _ _ _ _ _ _ us hl => match us, hl with | [_, _, _], _ => rfl⟩,
    defS2 (fun_mk (st := s_Weigh_init) l15 c15 k15) (fun a b => rfl) (fun a b r rs => rfl),
    ⟨mk_Weigh, a15, i15, kc_Weigh⟩,
    ⟨cr_Weigh, cg_Weigh⟩,
    ⟨_, ma16, ⟨_, mr16⟩, mf16⟩,
    ⟨_, fun_mk (st := s_Weigh_of) l16 c16 k16, (fun_mk (st := s_Weigh_of) l16 c16 k16).binds (ps := ["cls", "weights", "parts"]) fun _ _ _ _ _ _ us hl => match us, hl with | [_, _, _], _ => rfl⟩,
    ⟨_, ma17, ⟨_, mr17⟩, mf17⟩,
    defS1 (fun_mk (st := s_Rank_least) l17 c17 k17) (fun a => rfl) (fun a r rs => rfl),
    ⟨_, ma18, ⟨_, mr18⟩, mf18⟩,
    defS1 (fun_mk (st := s_Rank_greatest) l18 c18 k18) (fun a => rfl) (fun a r rs => rfl),
    ⟨_, ma19, ⟨_, mr19⟩, mf19⟩,
    defS1 (fun_mk (st := s_Rank_median) l19 c19 k19) (fun a => rfl) (fun a r rs => rfl),
    ⟨⟨_, fun_mk (st := s_made) l20 c20 k20, (fun_mk (st := s_made) l20 c20 k20).binds (ps := ["_law_sort", "_law_numbers", "_law_words_here"]) fun _ _ _ _ _ _ us hl => match us, hl with | [_, _, _], _ => rfl⟩, PySem.W.mg_of X G a20, k20⟩,
    ⟨⟨_, fun_mk (st := s_bare) l21 c21 k21, (fun_mk (st := s_bare) l21 c21 k21).binds (ps := ["_law_way", "_law_word_here"]) fun _ _ _ _ _ _ us hl => match us, hl with | [_, _], _ => rfl⟩, PySem.W.mg_of X G a21, k21⟩,
    ⟨⟨_, fun_mk (st := s_nested) l22 c22 k22, (fun_mk (st := s_nested) l22 c22 k22).binds (ps := ["_law_words_here", "_law_way"]) fun _ _ _ _ _ _ us hl => match us, hl with | [_, _], _ => rfl⟩, PySem.W.mg_of X G a22, k22⟩,
    ⟨⟨_, fun_mk (st := s_law) l23 c23 k23, (fun_mk (st := s_law) l23 c23 k23).binds (ps := ["_law_script"]) fun _ _ _ _ _ _ us hl => match us, hl with | [_], _ => rfl⟩, PySem.W.mg_of X G a23, k23⟩,
    PySem.W.mg_of X G aC_GaugeError,
    ⟨PySem.W.mg_of X G aC_GaugeError, ge_ga, ge_rd, ge_at⟩,
    PySem.W.mg_of X G aC_BadGauge,
    ⟨⟨nmBadGauge, qBadGauge, NBadGauge, bsBadGauge, _, snBadGauge, subBadGauge, abBadGauge, colBadGauge, ddBadGauge, m0BadGauge, m1BadGauge, m2BadGauge, m3BadGauge, m5BadGauge, xL_BadGauge, by rfl⟩, xsa_BadGauge, xeC_BadGauge, xtC_BadGauge, xkC_BadGauge⟩,
    ⟨xga_BadGauge, xgg_BadGauge, xeC_BadGauge, xhC_BadGauge⟩,
    n_BadGauge_name,
    PySem.W.mg_of X G aC_DuplicateGauge,
    ⟨⟨nmDuplicateGauge, qDuplicateGauge, NDuplicateGauge, bsDuplicateGauge, _, snDuplicateGauge, subDuplicateGauge, abDuplicateGauge, colDuplicateGauge, ddDuplicateGauge, m0DuplicateGauge, m1DuplicateGauge, m2DuplicateGauge, m3DuplicateGauge, m5DuplicateGauge, xL_DuplicateGauge, by rfl⟩, xsa_DuplicateGauge, xeC_DuplicateGauge, xtC_DuplicateGauge, xkC_DuplicateGauge⟩,
    ⟨xga_DuplicateGauge, xgg_DuplicateGauge, xeC_DuplicateGauge, xhC_DuplicateGauge⟩,
    n_DuplicateGauge_name,
    exm_of xeC_DuplicateGauge xic_DuplicateGauge xtC_DuplicateGauge xs_DuplicateGauge_DuplicateGauge,
    PySem.W.mg_of X G aC_MissingReading,
    ⟨⟨nmMissingReading, qMissingReading, NMissingReading, bsMissingReading, _, snMissingReading, subMissingReading, abMissingReading, colMissingReading, ddMissingReading, m0MissingReading, m1MissingReading, m2MissingReading, m3MissingReading, m5MissingReading, xL_MissingReading, by rfl⟩, xsa_MissingReading, xeC_MissingReading, xtC_MissingReading, xkC_MissingReading⟩,
    ⟨xga_MissingReading, xgg_MissingReading, xeC_MissingReading, xhC_MissingReading⟩,
    n_MissingReading_name,
    PySem.W.mg_of X G aC_BadRule,
    ⟨⟨nmBadRule, qBadRule, NBadRule, bsBadRule, _, snBadRule, subBadRule, abBadRule, colBadRule, ddBadRule, m0BadRule, m1BadRule, m2BadRule, m3BadRule, m5BadRule, xL_BadRule, by rfl⟩, xsa_BadRule, xeC_BadRule, xtC_BadRule, xkC_BadRule⟩,
    ⟨xga_BadRule, xgg_BadRule, xeC_BadRule, xhC_BadRule⟩,
    n_BadRule_kind,
    exm_of xeC_BadRule xic_BadRule xtC_BadRule xs_BadRule_BadRule,
    PySem.W.mg_of X G aC_Rule,
    PySem.W.mg_of X G aC_Leaf,
    ⟨pg_Leaf, hd_Leaf, po_Leaf, sa_Leaf⟩,
    ⟨⟨pg_Leaf, hd_Leaf, po_Leaf, sa_Leaf⟩, cc_Leaf, oc_s, oc_t, mo_Leaf⟩,
    n_Leaf_label,
    n_Leaf_numbers,
    n_Leaf_parts,
    n_Leaf_ranked,
    PySem.W.mg_of X G aC_Rank,
    ⟨pg_Rank, hd_Rank, po_Rank, sa_Rank⟩,
    ⟨⟨pg_Rank, hd_Rank, po_Rank, sa_Rank⟩, cc_Rank, oc_s, oc_t, mo_Rank⟩,
    n_Rank_label,
    n_Rank_numbers,
    n_Rank_parts,
    n_Rank_ranked,
    PySem.W.mg_of X G aC_Trim,
    ⟨pg_Trim, hd_Trim, po_Trim, sa_Trim⟩,
    ⟨⟨pg_Trim, hd_Trim, po_Trim, sa_Trim⟩, cc_Trim, oc_s, oc_t, mo_Trim⟩,
    n_Trim_label,
    n_Trim_numbers,
    n_Trim_parts,
    n_Trim_ranked,
    PySem.W.mg_of X G aC_Weigh,
    ⟨pg_Weigh, hd_Weigh, po_Weigh, sa_Weigh⟩,
    ⟨⟨pg_Weigh, hd_Weigh, po_Weigh, sa_Weigh⟩, cc_Weigh, oc_s, oc_t, mo_Weigh⟩,
    n_Weigh_label,
    n_Weigh_numbers,
    n_Weigh_parts,
    n_Weigh_ranked,
    exm_ofB xeC_BadRule xic_BadRule xtC_BadRule xs_DuplicateGauge_BadRule,
    ⟨xga_BadRule, xgg_BadRule, xeC_BadRule, xhC_BadRule, xcc_BadRule, oc_s, oc_t, xmo_BadRule⟩,
    kit_own xic_DuplicateGauge xtC_DuplicateGauge xs_BadRule_DuplicateGauge (.inl xn_BadRule_DuplicateGauge),
    kit_own xic_GaugeError xtC_GaugeError xs_BadRule_GaugeError (.inr rfl),
    ⟨xga_DuplicateGauge, xgg_DuplicateGauge, xeC_DuplicateGauge, xhC_DuplicateGauge, xcc_DuplicateGauge, oc_s, oc_t, xmo_DuplicateGauge⟩,
    kit_own xic_BadGauge xtC_BadGauge xs_DuplicateGauge_BadGauge (.inl xn_DuplicateGauge_BadGauge),
    kit_own xic_GaugeError xtC_GaugeError xs_DuplicateGauge_GaugeError (.inr rfl),
    ⟨cg_Rule, cr_Rule, ca_Rule, k9⟩,
    ⟨va_Leaf_names, i7, k7⟩,
    ⟨va_Rank_names, i8, k8⟩,
    ⟨va_Trim_names, i8, k8⟩,
    ⟨va_Weigh_names, i8, k8⟩,
    PySem.W.mg_none_of X G z_all,
    PySem.W.mg_none_of X G z_any,
    PySem.W.mg_none_of X G z_enumerate,
    PySem.W.mg_none_of X G z_int,
    PySem.W.mg_none_of X G z_isinstance,
    PySem.W.mg_none_of X G z_len,
    PySem.W.mg_none_of X G z_list,
    PySem.W.mg_none_of X G z_range,
    PySem.W.mg_none_of X G z_sum,
    PySem.W.mg_none_of X G z_tuple⟩
  exact ⟨_, fun s v => .of_eq rfl, fun base _ _ => ok_law' tx (fun_mk (st := s_law) l23 c23 k23)⟩
theorem walk {l : PySem.W.OpenLaw} {q : Program} {loose : List Str} {XP : (Str → Option Value) → Heap → Prop} {YP : World → Heap → Prop} {d : DefRec} {K : Params → PySem.W.Frag} (hn : l.most = some 63) (hdf : d.params.defaults = [])
    (hY : ∀ (w : World) (h : Heap), YP w h → (K w.params).In h)
    (F : ∀ (w : World) (mg : Str → Option Value) (fa : Addr) (h : Heap), (K w.params).In h → h.Ns mainGlobals mg → mg d.name = some (.ref fa) →
      ∃ fd : FuncData, (∀ (s : Shared) (u : Value), BindsTo s fd ⟨[u], []⟩ [("_law_script", u)]) ∧ ∀ base : Heap, (K w.params).In base → base.Ns mainGlobals mg → FnOk l.prog w (K w.params) mg base CX0 17 fa fd ["_law_script"] (spLaw (K w.params))) :
    PySem.W.WalkO q loose XP YP l.row.toRowW d [] (fun f vs => PySem.call f vs) :=
  L2.walk_of (n := 63) (k := 17) (x := "_law_script") (CX := fun _ => CX0) (sp := fun w => spLaw (K w.params)) hn (by decide) hdf ⟨rfl, by decide, by decide⟩ hY F (fun _ _ a ns hl _ hS => ⟨a, ns, rfl, hS, hl, fun _ => rfl⟩) fun _ _ _ _ _ z => z
end Lw
open PySem PySem.W PyProof.Rows
set_option maxRecDepth 100000 in
set_option maxHeartbeats 0 in
theorem PySem.Challenge.cw_gaugemiss_k23_rule_refusals_holds : PySem.Challenge.rw_gaugemiss_k23_rule_refusals.Holds := by
  w_on; o_law; k_head; (case hw => w_witness2)
  k_fill
  refine Lw.walk (l := PySem.Challenge.rw_gaugemiss_k23_rule_refusals) rfl rfl (fun w h Y => PySem.W.kIn_of Y) ?F
  case F =>
    intro w mg fa h KX G hmg
    refine' Lw.all_mk KX G hmg ?aC_GaugeError ?aC_BadGauge ?aC_DuplicateGauge ?aC_MissingReading ?aC_BadRule ?aC_Rule ?aC_Leaf ?aC_Rank ?aC_Trim ?aC_Weigh ?a1 ?l1 ?c1 ?k1 ?a2 ?l2 ?c2 ?k2 ?a3 ?l3 ?c3 ?k3 ?a4 ?l4 ?c4 ?k4 ?a5 ?i5 ?l5 ?c5 ?k5 ?ty_DuplicateGauge ?a6 ?i6 ?l6 ?c6 ?k6 ?ty_BadRule ?a7 ?i7 ?l7 ?c7 ?k7 ?a8 ?i8 ?l8 ?c8 ?k8 ?a9 ?i9 ?l9 ?c9 ?k9 ?mk_Rule ?kc_Rule ?a10 ?i10 ?l10 ?c10 ?k10 ?mk_Leaf ?kc_Leaf ?a11 ?i11 ?l11 ?c11 ?k11 ?mk_Rank ?kc_Rank ?cg_Rank ?cr_Rank ?ma12 ?mr12 ?mf12 ?l12 ?c12 ?k12 ?a13 ?i13 ?l13 ?c13 ?k13 ?mk_Trim ?kc_Trim ?cg_Trim ?cr_Trim ?ma14 ?mr14 ?mf14 ?l14 ?c14 ?k14 ?a15 ?i15 ?l15 ?c15 ?k15 ?mk_Weigh ?kc_Weigh ?cg_Weigh ?cr_Weigh ?ma16 ?mr16 ?mf16 ?l16 ?c16 ?k16 ?ma17 ?mr17 ?mf17 ?l17 ?c17 ?k17 ?ma18 ?mr18 ?mf18 ?l18 ?c18 ?k18 ?ma19 ?mr19 ?mf19 ?l19 ?c19 ?k19 ?a20 ?l20 ?c20 ?k20 ?a21 ?l21 ?c21 ?k21 ?a22 ?l22 ?c22 ?k22 ?a23 ?l23 ?c23 ?k23 ?ge_ga ?ge_rd ?ge_at ?xL_BadGauge ?xsa_BadGauge ?xga_BadGauge ?xgg_BadGauge ?xkC_BadGauge ?xeC_BadGauge ?xtC_BadGauge ?xhC_BadGauge ?xic_BadGauge ?n_BadGauge_name ?xL_DuplicateGauge ?xsa_DuplicateGauge ?xga_DuplicateGauge ?xgg_DuplicateGauge ?xkC_DuplicateGauge ?xeC_DuplicateGauge ?xtC_DuplicateGauge ?xhC_DuplicateGauge ?xic_DuplicateGauge ?n_DuplicateGauge_name ?xs_DuplicateGauge_DuplicateGauge ?xL_MissingReading ?xsa_MissingReading ?xga_MissingReading ?xgg_MissingReading ?xkC_MissingReading ?xeC_MissingReading ?xtC_MissingReading ?xhC_MissingReading ?xic_MissingReading ?n_MissingReading_name ?xL_BadRule ?xsa_BadRule ?xga_BadRule ?xgg_BadRule ?xkC_BadRule ?xeC_BadRule ?xtC_BadRule ?xhC_BadRule ?xic_BadRule ?n_BadRule_kind ?xs_BadRule_BadRule ?pg_Leaf ?hd_Leaf ?po_Leaf ?sa_Leaf ?cc_Leaf ?oc_s ?oc_t ?mo_Leaf ?n_Leaf_label ?n_Leaf_numbers ?n_Leaf_parts ?n_Leaf_ranked ?pg_Rank ?hd_Rank ?po_Rank ?sa_Rank ?cc_Rank ?mo_Rank ?n_Rank_label ?n_Rank_numbers ?n_Rank_parts ?n_Rank_ranked ?pg_Trim ?hd_Trim ?po_Trim ?sa_Trim ?cc_Trim ?mo_Trim ?n_Trim_label ?n_Trim_numbers ?n_Trim_parts ?n_Trim_ranked ?pg_Weigh ?hd_Weigh ?po_Weigh ?sa_Weigh ?cc_Weigh ?mo_Weigh ?n_Weigh_label ?n_Weigh_numbers ?n_Weigh_parts ?n_Weigh_ranked ?xs_DuplicateGauge_BadRule ?xcc_BadRule ?xmo_BadRule ?xs_BadRule_DuplicateGauge ?xn_BadRule_DuplicateGauge ?xic_GaugeError ?xtC_GaugeError ?xs_BadRule_GaugeError ?xcc_DuplicateGauge ?xmo_DuplicateGauge ?xs_DuplicateGauge_BadGauge ?xn_DuplicateGauge_BadGauge ?xs_DuplicateGauge_GaugeError ?cg_Rule ?cr_Rule ?ca_Rule ?va_Leaf_names ?va_Rank_names ?va_Trim_names ?va_Weigh_names ?z_all ?z_any ?z_enumerate ?z_int ?z_isinstance ?z_len ?z_list ?z_range ?z_sum ?z_tuple
    (case aC_GaugeError => k_is)
    (case aC_BadGauge => k_is)
    (case aC_DuplicateGauge => k_is)
    (case aC_MissingReading => k_is)
    (case aC_BadRule => k_is)
    (case aC_Rule => k_is)
    (case aC_Leaf => k_is)
    (case aC_Rank => k_is)
    (case aC_Trim => k_is)
    (case aC_Weigh => k_is)
    (case a1 => k_is)
    (case l1 => k_is)
    (case c1 => k_is)
    (case k1 => k_is)
    (case a2 => k_is)
    (case l2 => k_is)
    (case c2 => k_is)
    (case k2 => k_is)
    (case a3 => k_is)
    (case l3 => k_is)
    (case c3 => k_is)
    (case k3 => k_is)
    (case a4 => k_is)
    (case l4 => k_is)
    (case c4 => k_is)
    (case k4 => k_is)
    (case a5 => k_is)
    (case i5 => k_is)
    (case l5 => k_is)
    (case c5 => k_is)
    (case k5 => k_is)
    (case ty_DuplicateGauge => k_is)
    (case a6 => k_is)
    (case i6 => k_is)
    (case l6 => k_is)
    (case c6 => k_is)
    (case k6 => k_is)
    (case ty_BadRule => k_is)
    (case a7 => k_is)
    (case i7 => k_is)
    (case l7 => k_is)
    (case c7 => k_is)
    (case k7 => k_is)
    (case a8 => k_is)
    (case i8 => k_is)
    (case l8 => k_is)
    (case c8 => k_is)
    (case k8 => k_is)
    (case a9 => k_is)
    (case i9 => k_is)
    (case l9 => k_is)
    (case c9 => k_is)
    (case k9 => k_is)
    (case mk_Rule => k_is)
    (case kc_Rule => k_is)
    (case a10 => k_is)
    (case i10 => k_is)
    (case l10 => k_is)
    (case c10 => k_is)
    (case k10 => k_is)
    (case mk_Leaf => k_is)
    (case kc_Leaf => k_is)
    (case a11 => k_is)
    (case i11 => k_is)
    (case l11 => k_is)
    (case c11 => k_is)
    (case k11 => k_is)
    (case mk_Rank => k_is)
    (case kc_Rank => k_is)
    (case cg_Rank => k_is)
    (case cr_Rank => k_is)
    (case ma12 => k_is)
    (case mr12 => k_is)
    (case mf12 => k_is)
    (case l12 => k_is)
    (case c12 => k_is)
    (case k12 => k_is)
    (case a13 => k_is)
    (case i13 => k_is)
    (case l13 => k_is)
    (case c13 => k_is)
    (case k13 => k_is)
    (case mk_Trim => k_is)
    (case kc_Trim => k_is)
    (case cg_Trim => k_is)
    (case cr_Trim => k_is)
    (case ma14 => k_is)
    (case mr14 => k_is)
    (case mf14 => k_is)
    (case l14 => k_is)
    (case c14 => k_is)
    (case k14 => k_is)
    (case a15 => k_is)
    (case i15 => k_is)
    (case l15 => k_is)
    (case c15 => k_is)
    (case k15 => k_is)
    (case mk_Weigh => k_is)
    (case kc_Weigh => k_is)
    (case cg_Weigh => k_is)
    (case cr_Weigh => k_is)
    (case ma16 => k_is)
    (case mr16 => k_is)
    (case mf16 => k_is)
    (case l16 => k_is)
    (case c16 => k_is)
    (case k16 => k_is)
    (case ma17 => k_is)
    (case mr17 => k_is)
    (case mf17 => k_is)
    (case l17 => k_is)
    (case c17 => k_is)
    (case k17 => k_is)
    (case ma18 => k_is)
    (case mr18 => k_is)
    (case mf18 => k_is)
    (case l18 => k_is)
    (case c18 => k_is)
    (case k18 => k_is)
    (case ma19 => k_is)
    (case mr19 => k_is)
    (case mf19 => k_is)
    (case l19 => k_is)
    (case c19 => k_is)
    (case k19 => k_is)
    (case a20 => k_is)
    (case l20 => k_is)
    (case c20 => k_is)
    (case k20 => k_is)
    (case a21 => k_is)
    (case l21 => k_is)
    (case c21 => k_is)
    (case k21 => k_is)
    (case a22 => k_is)
    (case l22 => k_is)
    (case c22 => k_is)
    (case k22 => k_is)
    (case a23 => k_is)
    (case l23 => k_is)
    (case c23 => k_is)
    (case k23 => k_is)
    (case ge_ga => k_is)
    (case ge_rd => k_is)
    (case ge_at => k_is)
    (case xL_BadGauge => k_is)
    (case xsa_BadGauge => k_is)
    (case xga_BadGauge => k_is)
    (case xgg_BadGauge => k_is)
    (case xkC_BadGauge => k_is)
    (case xeC_BadGauge => k_is)
    (case xtC_BadGauge => k_is)
    (case xhC_BadGauge => k_is)
    (case xic_BadGauge => k_is)
    (case n_BadGauge_name => k_is)
    (case xL_DuplicateGauge => k_is)
    (case xsa_DuplicateGauge => k_is)
    (case xga_DuplicateGauge => k_is)
    (case xgg_DuplicateGauge => k_is)
    (case xkC_DuplicateGauge => k_is)
    (case xeC_DuplicateGauge => k_is)
    (case xtC_DuplicateGauge => k_is)
    (case xhC_DuplicateGauge => k_is)
    (case xic_DuplicateGauge => k_is)
    (case n_DuplicateGauge_name => k_is)
    (case xs_DuplicateGauge_DuplicateGauge => k_is)
    (case xL_MissingReading => k_is)
    (case xsa_MissingReading => k_is)
    (case xga_MissingReading => k_is)
    (case xgg_MissingReading => k_is)
    (case xkC_MissingReading => k_is)
    (case xeC_MissingReading => k_is)
    (case xtC_MissingReading => k_is)
    (case xhC_MissingReading => k_is)
    (case xic_MissingReading => k_is)
    (case n_MissingReading_name => k_is)
    (case xL_BadRule => k_is)
    (case xsa_BadRule => k_is)
    (case xga_BadRule => k_is)
    (case xgg_BadRule => k_is)
    (case xkC_BadRule => k_is)
    (case xeC_BadRule => k_is)
    (case xtC_BadRule => k_is)
    (case xhC_BadRule => k_is)
    (case xic_BadRule => k_is)
    (case n_BadRule_kind => k_is)
    (case xs_BadRule_BadRule => k_is)
    (case pg_Leaf => k_is)
    (case hd_Leaf => k_is)
    (case po_Leaf => k_is)
    (case sa_Leaf => k_is)
    (case cc_Leaf => k_is)
    (case oc_s => k_is)
    (case oc_t => k_is)
    (case mo_Leaf => k_is)
    (case n_Leaf_label => k_is)
    (case n_Leaf_numbers => k_is)
    (case n_Leaf_parts => k_is)
    (case n_Leaf_ranked => k_is)
    (case pg_Rank => k_is)
    (case hd_Rank => k_is)
    (case po_Rank => k_is)
    (case sa_Rank => k_is)
    (case cc_Rank => k_is)
    (case mo_Rank => k_is)
    (case n_Rank_label => k_is)
    (case n_Rank_numbers => k_is)
    (case n_Rank_parts => k_is)
    (case n_Rank_ranked => k_is)
    (case pg_Trim => k_is)
    (case hd_Trim => k_is)
    (case po_Trim => k_is)
    (case sa_Trim => k_is)
    (case cc_Trim => k_is)
    (case mo_Trim => k_is)
    (case n_Trim_label => k_is)
    (case n_Trim_numbers => k_is)
    (case n_Trim_parts => k_is)
    (case n_Trim_ranked => k_is)
    (case pg_Weigh => k_is)
    (case hd_Weigh => k_is)
    (case po_Weigh => k_is)
    (case sa_Weigh => k_is)
    (case cc_Weigh => k_is)
    (case mo_Weigh => k_is)
    (case n_Weigh_label => k_is)
    (case n_Weigh_numbers => k_is)
    (case n_Weigh_parts => k_is)
    (case n_Weigh_ranked => k_is)
    (case xs_DuplicateGauge_BadRule => k_is)
    (case xcc_BadRule => k_is)
    (case xmo_BadRule => k_is)
    (case xs_BadRule_DuplicateGauge => k_is)
    (case xn_BadRule_DuplicateGauge => first | rfl | decide +kernel)
    (case xic_GaugeError => k_is)
    (case xtC_GaugeError => k_is)
    (case xs_BadRule_GaugeError => k_is)
    (case xcc_DuplicateGauge => k_is)
    (case xmo_DuplicateGauge => k_is)
    (case xs_DuplicateGauge_BadGauge => k_is)
    (case xn_DuplicateGauge_BadGauge => first | rfl | decide +kernel)
    (case xs_DuplicateGauge_GaugeError => k_is)
    (case cg_Rule => k_is)
    (case cr_Rule => k_is)
    (case ca_Rule => k_is)
    (case va_Leaf_names => k_is)
    (case va_Rank_names => k_is)
    (case va_Trim_names => k_is)
    (case va_Weigh_names => k_is)
    (case z_all => k_is)
    (case z_any => k_is)
    (case z_enumerate => k_is)
    (case z_int => k_is)
    (case z_isinstance => k_is)
    (case z_len => k_is)
    (case z_list => k_is)
    (case z_range => k_is)
    (case z_sum => k_is)
    (case z_tuple => k_is)
