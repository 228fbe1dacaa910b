import PyProof.Rows.All
import Wide.All
import OpenK.AllK
import Wide.FinOn
import HandS.ForMost
import HandS.ForExc
import HandS.More
import HandS.IsInst
import HandS.Star
import HandS.ExcInit
import HandS.ExcField
import HandS.FStr
import HandS.ExcCtx
import HandS.SortInts
import KE.KOpsOwn
import HandS.ExcIs
import HandS.ClsMeth
import HandS.Property
import HandS.SortRule
import HandS.Strs
import HandS.SetBool
import HandS.Zip
import HandS.OwnEq
import HandS.TryMany
import HandS.Small
import HandS.Style
import KE.KRevSl
import KE.KSuper
import HandS.Defaults
import HandS.MakeKwOnly
import HandS.Flow
import HandS.Dict
import HandS.Conv
import KE.GoesZip
import KE.GoesMore
import HandS.DictComp
import KE.SortData
import HandS.Deep
import HandS.IterVal
import HandS.Head0
import HandS.Head1
import HandS.Head2
import HandS.HeadEnd
import HandS.HeadHook1
import HandS.HeadHook2
import HandS.HeadNt
import HandS.WordsDict
import KE.GoesRaise
import HandS.TupAny
import HandS.FStrTup
import HandS.Text
import HandS.SortKw
import KE.DatumOrd
import KE.KIndexOf
import PyProof.ReprHeads
import PyProof.Rows.EqNone
import PySem.Challenge.RW_gaugemiss_k51_keeper_limits
set_option Elab.async false
set_option linter.all false
set_option maxRecDepth 100000
set_option maxHeartbeats 2000000
namespace G
open PySem L2
/-- the classes of the program -/
inductive Cn where
  | GaugeError | BadStretch | NoLevel | Apart | BadNeed | BadLiars | BadGauge | DuplicateGauge | UnknownGauge | MissingReading | BadRule | BadText | BadLine | SharedFault | BadPaper | NoBound
  | BadLimit | NoCase | NoTruth | NoTick | NotPossible | NothingToUndo | NothingToRedo | NotRanked | NoRule
  | Stretch | Levels | Gauge | CoarseGauge | LateGauge | LateCoarseGauge | Rack | Rule | Leaf | Rank | Trim | Weigh | Miss | Case | Twins | Keeper | Desk | SteadyDesk | Finder
  | other (n : Nat)
structure Bs where
  K : PySem.W.Frag
  cl : Cn → Addr
structure Wc where
  B : Bs
  mu : Addr → Prop
  box : Addr → Prop
def Wc.plus (W : Wc) (D : Addr) : Wc := ⟨W.B, fun a => W.mu a ∨ a = D, W.box⟩
def Kp (W : Wc) (H H' : Hp) : Prop := ∀ a o, ¬ W.mu a → H a = some o → H' a = some o
/-- the box of draws at b: its cells, the place, what is pending, the salt -/
def BoxAt (b : Addr) (H : Hp) : Prop := ∃ (c : Addr) (ns : List Int) (i p s : Int), b ≠ c ∧ H b = some (.lst [.ref c, .int i, .int p, .int s]) ∧ H c = some (.lst (ns.map V.int)) ∧ 0 ≤ i ∧ 0 ≤ p
/-- the core, what the changing objects are, and what is wished of errors that leave -/
structure Wd extends Wc where
  ok : Hp → Prop
  live : ∀ H a, ok H → mu a → ∃ o, H a = some o
  st : ∀ H p o, ok H → ¬ mu p → ok (upd H p o)
  wish : Hp → Prop
  wst : ∀ H H', (∀ a o, ¬ mu a → H a = some o → H' a = some o) → ok H' → wish H → wish H'
  hasbox : ∀ H b, ok H → box b → BoxAt b H
  boxset : ∀ H b c i p s i' p' s', ok H → box b → H b = some (.lst [.ref c, .int i, .int p, .int s]) → 0 ≤ i' → 0 ≤ p' → ok (upd H b (.lst [.ref c, .int i', .int p', .int s']))
  boxmu : ∀ b, box b → mu b
  oke : ∀ H H', ok H → (∀ a o, H a = some o → H' a = some o) → ok H'
instance : Coe Wd Wc := ⟨Wd.toWc⟩
structure Ext (W : Wd) (H H' : Hp) : Prop where
  keep : Kp W H H'
  ok : W.ok H'
theorem Ext.refl {W : Wd} {H : Hp} (h : W.ok H) : Ext W H H := ⟨fun _ _ _ e => e, h⟩
theorem Ext.trans {W : Wd} {H H1 H2 : Hp} (a : Ext W H H1) (b : Ext W H1 H2) : Ext W H H2 := ⟨fun c o n e => b.keep c o n (a.keep c o n e), b.ok⟩
theorem fresh_mu {W : Wd} {H : Hp} {p : Addr} (h : W.ok H) (n : H p = none) : ¬ W.mu p := fun m => by
  obtain ⟨o, e⟩ := W.live H p h m
  rw [n] at e
  cases e
theorem Ext.new {W : Wd} {H : Hp} {p : Addr} {o : HO} (h : W.ok H) (n : H p = none) : Ext W H (upd H p o) :=
  ⟨fun a u _ e => by rw [upd_ne (ne_of_none e n)]; exact e, W.st H p o h (fresh_mu h n)⟩
/-- the world where a new list at D, not there in H1, is kept apart: it holds xs -/
def Wd.plus (W : Wd) (D : Addr) (xs : List V) (H1 : Hp) (n : H1 D = none) (o1 : W.ok H1) (w1 : W.wish H1) : Wd where
  toWc := W.toWc.plus D
  ok := fun H => W.ok H ∧ H D = some (.lst xs)
  live := fun H a ⟨h, e⟩ m => by
    rcases m with m | m
    · exact W.live H a h m
    · subst m; exact ⟨_, e⟩
  st := fun H p o ⟨h, e⟩ m => ⟨W.st H p o h (fun z => m (.inl z)), by rw [upd_ne (fun z => m (.inr z.symm))]; exact e⟩
  wish := fun H => (∀ a o, ¬ W.mu a → H1 a = some o → H a = some o)
  wst := fun H H' k _ w a o m e => k a o (fun z => z.elim m fun z => by subst z; rw [n] at e; cases e) (w a o m e)
  hasbox := fun H b ⟨h, _⟩ hb => W.hasbox H b h hb
  boxset := fun H b c i p s i' p' s' ⟨h, e⟩ hb q h1 h2 => ⟨W.boxset H b c i p s i' p' s' h hb q h1 h2, by
    have z : D ≠ b := fun z => by
      subst z
      exact fresh_mu o1 n (W.boxmu _ hb)
    rw [upd_ne z]; exact e⟩
  boxmu := fun b hb => .inl (W.boxmu b hb)
  oke := fun H H' ⟨h, e⟩ k => ⟨W.oke H H' h k, k _ _ e⟩
/-- W' is W with more objects that change -/
structure Sub (W W' : Wd) : Prop where
  B : W'.B = W.B
  ok : ∀ H, W'.ok H → W.ok H
  wish : ∀ H, W'.ok H → W'.wish H → W.wish H
theorem Sub.refl (W : Wd) : Sub W W := ⟨rfl, fun _ h => h, fun _ _ h => h⟩
theorem Sub.trans {W W1 W2 : Wd} (a : Sub W W1) (b : Sub W1 W2) : Sub W W2 := ⟨b.B.trans a.B, fun H h => a.ok H (b.ok H h), fun H o h => a.wish H (b.ok H o) (b.wish H o h)⟩
theorem Sub.plus {W : Wd} {D : Addr} {xs : List V} {H1 : Hp} {n : H1 D = none} {o1 : W.ok H1} {w1 : W.wish H1} : Sub W (W.plus D xs H1 n o1 w1) :=
  ⟨rfl, fun _ h => h.1, fun H h w => W.wst H1 H w h.1 w1⟩
class Rep (α : Type) where
  dn : Wc → Hp → V → α → Prop
  mono : ∀ {W : Wc} {H H' : Hp} {v : V} {a : α}, Kp W H H' → dn W H v a → dn W H' v a
  grow : ∀ {W : Wc} {H : Hp} {v : V} {a : α} (D : Addr), H D = none → dn W H v a → dn (W.plus D) H v a
  shrink : ∀ {W : Wc} {H : Hp} {v : V} {a : α} (D : Addr), dn (W.plus D) H v a → dn W H v a
abbrev den {α : Type} [r : Rep α] (W : Wc) (H : Hp) (v : V) (a : α) : Prop := r.dn W H v a
inductive Dl {α : Type} (f : V → α → Prop) : List V → List α → Prop
  | nil : Dl f [] []
  | cons {v : V} {a : α} {vs : List V} {as : List α} : f v a → Dl f vs as → Dl f (v :: vs) (a :: as)
theorem Dl.imp {α : Type} {f g : V → α → Prop} (h : ∀ v a, f v a → g v a) : ∀ {vs : List V} {as : List α}, Dl f vs as → Dl g vs as
  | _, _, .nil => .nil
  | _, _, .cons x y => .cons (h _ _ x) (y.imp h)
theorem Dl.length {α : Type} {f : V → α → Prop} : ∀ {vs : List V} {as : List α}, Dl f vs as → vs.length = as.length
  | _, _, .nil => rfl
  | _, _, .cons _ y => congrArg (· + 1) y.length
theorem Dl.append {α : Type} {f : V → α → Prop} : ∀ {vs ws : List V} {as bs : List α}, Dl f vs as → Dl f ws bs → Dl f (vs ++ ws) (as ++ bs)
  | _, _, _, _, .nil, h => h
  | _, _, _, _, .cons x y, h => .cons x (y.append h)
theorem Dl.at {α : Type} {f : V → α → Prop} : ∀ {vs : List V} {as : List α} {i : Nat} {v : V}, Dl f vs as → vs[i]? = some v → ∃ a, as[i]? = some a ∧ f v a
  | _, _, _, _, .nil, h => by simp at h
  | _, _, 0, _, .cons x y, h => ⟨_, rfl, by simp at h; subst h; exact x⟩
  | _, _, i + 1, _, .cons x y, h => by
    obtain ⟨a, h1, h2⟩ := Dl.at (i := i) y (by simpa using h)
    exact ⟨a, by simpa using h1, h2⟩
theorem Dl.at' {α : Type} {f : V → α → Prop} : ∀ {vs : List V} {as : List α} {i : Nat} {a : α}, Dl f vs as → as[i]? = some a → ∃ v, vs[i]? = some v ∧ f v a
  | _, _, _, _, .nil, h => by simp at h
  | _, _, 0, _, .cons x y, h => ⟨_, rfl, by simp at h; subst h; exact x⟩
  | _, _, i + 1, _, .cons x y, h => by
    obtain ⟨a, h1, h2⟩ := Dl.at' (i := i) y (by simpa using h)
    exact ⟨a, by simpa using h1, h2⟩
theorem Dl.ints {vs : List V} {as : List Int} (h : Dl (fun v (a : Int) => v = .int a) vs as) : vs = as.map V.int := by
  induction h with
  | nil => rfl
  | cons x _ ih => rw [x, ih]; rfl
theorem Dl.of_ints : ∀ as : List Int, Dl (fun v (a : Int) => v = .int a) (as.map V.int) as
  | [] => .nil
  | _ :: r => .cons rfl (Dl.of_ints r)
/-- a list that does not change now; a tuple: tracked, or of the written part -/
def Lq (W : Wc) (H : Hp) (p : Addr) (vs : List V) : Prop := ¬ W.mu p ∧ H p = some (.lst vs)
def Tq (W : Wc) (H : Hp) (p : Addr) (vs : List V) : Prop := ¬ W.mu p ∧ H p = some (.tup vs)
theorem Lq.sq {W : Wc} {H : Hp} {p : Addr} {vs : List V} (h : Lq W H p vs) : SqL W.B.K H p vs := .inl (.inl h.2)
theorem Tq.sq {W : Wc} {H : Hp} {p : Addr} {vs : List V} (h : Tq W H p vs) : SqT W.B.K H p vs := .inl (.inl h.2)
theorem Lq.mono {W : Wc} {H H' : Hp} {p : Addr} {vs : List V} (e : Kp W H H') (h : Lq W H p vs) : Lq W H' p vs := ⟨h.1, e _ _ h.1 h.2⟩
theorem Tq.mono {W : Wc} {H H' : Hp} {p : Addr} {vs : List V} (e : Kp W H H') (h : Tq W H p vs) : Tq W H' p vs := ⟨h.1, e _ _ h.1 h.2⟩
theorem mu_grow {W : Wc} {H : Hp} {p D : Addr} {o : HO} (n : H D = none) (m : ¬ W.mu p) (h : H p = some o) : ¬ (W.plus D).mu p := fun z => z.elim m fun z => by
  subst z
  rw [n] at h
  cases h
theorem Lq.grow {W : Wc} {H : Hp} {p : Addr} {vs : List V} (D : Addr) (n : H D = none) (h : Lq W H p vs) : Lq (W.plus D) H p vs := ⟨mu_grow n h.1 h.2, h.2⟩
theorem Tq.grow {W : Wc} {H : Hp} {p : Addr} {vs : List V} (D : Addr) (n : H D = none) (h : Tq W H p vs) : Tq (W.plus D) H p vs := ⟨mu_grow n h.1 h.2, h.2⟩
theorem Lq.shrink {W : Wc} {H : Hp} {p : Addr} {vs : List V} (D : Addr) (h : Lq (W.plus D) H p vs) : Lq W H p vs := ⟨fun z => h.1 (.inl z), h.2⟩
theorem Tq.shrink {W : Wc} {H : Hp} {p : Addr} {vs : List V} (D : Addr) (h : Tq (W.plus D) H p vs) : Tq W H p vs := ⟨fun z => h.1 (.inl z), h.2⟩
theorem Lq.new {W : Wc} {H : Hp} {p : Addr} {vs : List V} (m : ¬ W.mu p) (h : H p = some (.lst vs)) : Lq W H p vs := ⟨m, h⟩
theorem Tq.new {W : Wc} {H : Hp} {p : Addr} {vs : List V} (m : ¬ W.mu p) (h : H p = some (.tup vs)) : Tq W H p vs := ⟨m, h⟩
instance : Rep Int := ⟨fun _ _ v a => v = .int a, fun _ h => h, fun _ _ h => h, fun _ h => h⟩
instance : Rep Bool := ⟨fun _ _ v a => v = .bl a, fun _ h => h, fun _ _ h => h, fun _ h => h⟩
instance : Rep Str := ⟨fun _ _ v a => v = .str a, fun _ h => h, fun _ _ h => h, fun _ h => h⟩
instance : Rep Unit := ⟨fun _ _ v _ => v = .non, fun _ h => h, fun _ _ h => h, fun _ h => h⟩
instance {α β : Type} [Rep α] [Rep β] : Rep (α × β) :=
  ⟨fun W H v a => ∃ p x y, v = .ref p ∧ Tq W H p [x, y] ∧ den W H x a.1 ∧ den W H y a.2,
   fun e ⟨p, x, y, hv, s, h1, h2⟩ => ⟨p, x, y, hv, s.mono e, Rep.mono e h1, Rep.mono e h2⟩,
   fun D n ⟨p, x, y, hv, s, h1, h2⟩ => ⟨p, x, y, hv, s.grow D n, Rep.grow D n h1, Rep.grow D n h2⟩,
   fun D ⟨p, x, y, hv, s, h1, h2⟩ => ⟨p, x, y, hv, s.shrink D, Rep.shrink D h1, Rep.shrink D h2⟩⟩
/-- a tuple of three -/
structure T3 (α β γ : Type) where
  a : α
  b : β
  c : γ
instance {α β γ : Type} [Rep α] [Rep β] [Rep γ] : Rep (T3 α β γ) :=
  ⟨fun W H v t => ∃ p x y z, v = .ref p ∧ Tq W H p [x, y, z] ∧ den W H x t.a ∧ den W H y t.b ∧ den W H z t.c,
   fun e ⟨p, x, y, z, hv, s, h1, h2, h3⟩ => ⟨p, x, y, z, hv, s.mono e, Rep.mono e h1, Rep.mono e h2, Rep.mono e h3⟩,
   fun D n ⟨p, x, y, z, hv, s, h1, h2, h3⟩ => ⟨p, x, y, z, hv, s.grow D n, Rep.grow D n h1, Rep.grow D n h2, Rep.grow D n h3⟩,
   fun D ⟨p, x, y, z, hv, s, h1, h2, h3⟩ => ⟨p, x, y, z, hv, s.shrink D, Rep.shrink D h1, Rep.shrink D h2, Rep.shrink D h3⟩⟩
instance {α : Type} [Rep α] : Rep (List α) :=
  ⟨fun W H v as => ∃ p vs, v = .ref p ∧ Lq W H p vs ∧ Dl (den W H) vs as,
   fun e ⟨p, vs, hv, s, h⟩ => ⟨p, vs, hv, s.mono e, h.imp fun _ _ x => Rep.mono e x⟩,
   fun D n ⟨p, vs, hv, s, h⟩ => ⟨p, vs, hv, s.grow D n, h.imp fun _ _ x => Rep.grow D n x⟩,
   fun D ⟨p, vs, hv, s, h⟩ => ⟨p, vs, hv, s.shrink D, h.imp fun _ _ x => Rep.shrink D x⟩⟩
/-- the box of draws: an object that changes -/
structure Bx where
instance : Rep Bx := ⟨fun W _ v _ => ∃ b, v = .ref b ∧ W.box b, fun _ h => h, fun _ _ h => h, fun _ h => h⟩
structure Ty where
  α : Type
  r : Rep α
  a : α
abbrev T {α : Type} [r : Rep α] (a : α) : Ty := ⟨α, r, a⟩
def Ty.den (W : Wc) (H : Hp) (v : V) (t : Ty) : Prop := t.r.dn W H v t.a
theorem Ty.mono {W : Wc} {H H' : Hp} {v : V} {t : Ty} (e : Kp W H H') (h : t.den W H v) : t.den W H' v := t.r.mono e h
abbrev Gam := List (Option Ty)
structure GOk (W : Wd) (H : Hp) (σ : St) (Γ : Gam) : Prop where
  ok : W.ok H
  wish : W.wish H
  at_ : ∀ (i : Nat) (t : Ty), Γ[i]? = some (some t) → ∃ v, σ[i]? = some (some v) ∧ t.den W H v
  len : σ.length = Γ.length
theorem GOk.ext {W : Wd} {H H' : Hp} {σ : St} {Γ : Gam} (E : GOk W H σ Γ) (e : Ext W H H') : GOk W H' σ Γ :=
  ⟨e.ok, W.wst _ _ e.keep e.ok E.wish, fun i t h => let ⟨v, h1, h2⟩ := E.at_ i t h; ⟨v, h1, Ty.mono e.keep h2⟩, E.len⟩
theorem GOk.set {W : Wd} {H : Hp} {σ : St} {Γ : Gam} (E : GOk W H σ Γ) (i : Nat) {v : V} {t : Ty} (h : t.den W H v) : GOk W H (σ.set i (some v)) (Γ.set i (some t)) := by
  refine ⟨E.ok, E.wish, fun j u hj => ?_, by rw [List.length_set, List.length_set]; exact E.len⟩
  by_cases e : i = j
  · subst e
    have hl : i < Γ.length := by
      have := (List.getElem?_eq_some_iff.mp hj).1
      rwa [List.length_set] at this
    rw [List.getElem?_set_self hl] at hj
    cases hj
    exact ⟨v, List.getElem?_set_self (by rw [E.len]; exact hl), h⟩
  · rw [List.getElem?_set_ne e] at hj
    rw [List.getElem?_set_ne e]
    exact E.at_ j u hj
theorem GOk.unset {W : Wd} {H : Hp} {σ : St} {Γ : Gam} (E : GOk W H σ Γ) (i : Nat) : GOk W H (σ.set i none) (Γ.set i none) := by
  refine ⟨E.ok, E.wish, fun j u hj => ?_, by rw [List.length_set, List.length_set]; exact E.len⟩
  by_cases e : i = j
  · subst e
    have hl : i < Γ.length := by
      have := (List.getElem?_eq_some_iff.mp hj).1
      rwa [List.length_set] at this
    rw [List.getElem?_set_self hl] at hj
    cases hj
  · rw [List.getElem?_set_ne e] at hj
    rw [List.getElem?_set_ne e]
    exact E.at_ j u hj
def wipeE (Γ : Gam) : List Nat → Gam
  | [] => Γ
  | i :: r => (wipeE Γ r).set i none
theorem GOk.wipe {W : Wd} {H : Hp} {σ : St} {Γ : Gam} (E : GOk W H σ Γ) : ∀ vs : List Nat, GOk W H (wipe σ vs) (wipeE Γ vs)
  | [] => E
  | i :: r => (E.wipe r).unset i
def EvK {α : Type} [Rep α] (W : Wd) (te : TE) (Γ : Gam) (k : α → Prop) : Prop :=
  ∀ σ H (Q : VK), GOk W H σ Γ → (∀ v H' (a : α), Ext W H H' → den W H' v a → k a → Q v H') → te σ H Q
def EvT (W : Wd) (tt : TT) (Γ : Gam) (k : Bool → Prop) : Prop :=
  ∀ σ H (Q : Bool → Hp → Prop), GOk W H σ Γ → (∀ H' b, Ext W H H' → k b → Q b H') → tt σ H Q
/-- arguments: a list of typed data -/
inductive DT (W : Wc) (H : Hp) : List V → List Ty → Prop
  | nil : DT W H [] []
  | cons {v : V} {t : Ty} {vs : List V} {ts : List Ty} : t.den W H v → DT W H vs ts → DT W H (v :: vs) (t :: ts)
theorem DT.mono {W : Wc} {H H' : Hp} (e : Kp W H H') : ∀ {vs : List V} {ts : List Ty}, DT W H vs ts → DT W H' vs ts
  | _, _, .nil => .nil
  | _, _, .cons x y => .cons (Ty.mono e x) (y.mono e)
theorem DT.length {W : Wc} {H : Hp} : ∀ {vs : List V} {ts : List Ty}, DT W H vs ts → vs.length = ts.length
  | _, _, .nil => rfl
  | _, _, .cons _ y => congrArg (· + 1) y.length
def EvA (W : Wd) (ta : TA) (Γ : Gam) (k : List Ty → Prop) : Prop :=
  ∀ σ H (Q : List V → Hp → Prop), GOk W H σ Γ → (∀ vs H' ts, Ext W H H' → DT W H' vs ts → k ts → Q vs H') → ta σ H Q
section
variable {W : Wd} {Γ : Gam} {ta tb tc te : TE} {tt tu : TT}
theorem EvK.imp {α : Type} {rα : Rep α} {k k' : α → Prop} (h : EvK W te Γ k) (i : ∀ a, k a → k' a) : EvK W te Γ k' :=
  fun σ H Q E q => h σ H Q E fun v H' a e d z => q v H' a e d (i a z)
theorem ev_var {α : Type} {r : Rep α} {i : Nat} {a : α} {k : α → Prop} (h : Γ[i]? = some (some (T a))) (q : k a) : EvK W (tVar i) Γ k := fun σ H Q E c => by
  obtain ⟨v, h1, h2⟩ := E.at_ i _ h
  exact ⟨v, h1, c v H a (Ext.refl E.ok) h2 q⟩
theorem ev_int {i : Int} {k : Int → Prop} (q : k i) : EvK W (tC (.int i)) Γ k := fun σ H Q E c => c _ H i (Ext.refl E.ok) rfl q
theorem ev_bl {i : Bool} {k : Bool → Prop} (q : k i) : EvK W (tC (.bl i)) Γ k := fun σ H Q E c => c _ H i (Ext.refl E.ok) rfl q
theorem ev_str {i : Str} {k : Str → Prop} (q : k i) : EvK W (tC (.str i)) Γ k := fun σ H Q E c => c _ H i (Ext.refl E.ok) rfl q
theorem ev_non {k : Unit → Prop} (q : k ()) : EvK W (tC .non) Γ k := fun σ H Q E c => c _ H () (Ext.refl E.ok) rfl q
/-- two parts, one behind the other -/
theorem ev_two {α β γ : Type} {rα : Rep α} {rβ : Rep β} {rγ : Rep γ} {r : R2} {k : γ → Prop}
    (h : EvK W ta Γ fun a : α => EvK W tb Γ fun b : β => ∀ x y H (Q : VK), W.ok H → den W H x a → den W H y b → (∀ v H' (c : γ), Ext W H H' → den W H' v c → k c → Q v H') → r x y H Q) : EvK W (tOp r ta tb) Γ k := fun σ H Q E c =>
  h σ H _ E fun x H1 a e1 d1 h1 => h1 σ H1 _ (E.ext e1) fun y H2 b e2 d2 h2 => h2 x y H2 Q e2.ok (Rep.mono e2.keep d1) d2 fun v H3 a3 e3 d3 z => c v H3 a3 ((e1.trans e2).trans e3) d3 z
theorem ev_opI {f : Int → Int → Int} {k : Int → Prop} (h : EvK W ta Γ fun i : Int => EvK W tb Γ fun j : Int => k (f i j)) : EvK W (tOp (rI0 fun i j => .int (f i j)) ta tb) Γ k :=
  ev_two (h.imp fun i hi => hi.imp fun j hj x y H Q o dx dy c => ⟨i, j, dx, dy, c _ H _ (Ext.refl o) rfl hj⟩)
theorem ev_opB {f : Int → Int → Bool} {k : Bool → Prop} (h : EvK W ta Γ fun i : Int => EvK W tb Γ fun j : Int => k (f i j)) : EvK W (tOp (rI0 fun i j => .bl (f i j)) ta tb) Γ k :=
  ev_two (h.imp fun i hi => hi.imp fun j hj x y H Q o dx dy c => ⟨i, j, dx, dy, c _ H _ (Ext.refl o) rfl hj⟩)
theorem ev_opC {C : Int → Int → Prop} {f : Int → Int → Int} {k : Int → Prop} (h : EvK W ta Γ fun i : Int => EvK W tb Γ fun j : Int => C i j ∧ k (f i j)) : EvK W (tOp (rI C fun i j => .int (f i j)) ta tb) Γ k :=
  ev_two (h.imp fun i hi => hi.imp fun j hj x y H Q o dx dy c => ⟨i, j, dx, dy, hj.1, c _ H _ (Ext.refl o) rfl hj.2⟩)
theorem ev_unI {f : Int → Int} {k : Int → Prop} (h : EvK W ta Γ fun i : Int => k (f i)) : EvK W (tUn (rU fun i => .int (f i)) ta) Γ k := fun σ H Q E c =>
  h σ H _ E fun x H1 i e1 d1 h1 => ⟨i, d1, c _ H1 _ e1 rfl h1⟩
theorem ev_if {α : Type} {rα : Rep α} {k : α → Prop} (h : EvT W tt Γ fun b => (b = true → EvK W ta Γ k) ∧ (b = false → EvK W tb Γ k)) : EvK W (tIf tt ta tb) Γ k := fun σ H Q E c =>
  h σ H _ E fun H1 b e1 ⟨h1, h2⟩ => by
    cases b with
    | true => exact h1 rfl σ H1 Q (E.ext e1) fun v H2 a e2 d z => c v H2 a (e1.trans e2) d z
    | false => exact h2 rfl σ H1 Q (E.ext e1) fun v H2 a e2 d z => c v H2 a (e1.trans e2) d z
theorem ev_andV {k : Bool → Prop} (h : EvK W ta Γ fun a : Bool => (a = true → EvK W tb Γ k) ∧ (a = false → k false)) : EvK W (tAndV ta tb) Γ k := fun σ H Q E c =>
  h σ H _ E fun x H1 a e1 d1 ⟨h1, h2⟩ => ⟨a, d1, by
    cases a with
    | true => exact h1 rfl σ H1 Q (E.ext e1) fun v H2 a e2 d z => c v H2 a (e1.trans e2) d z
    | false => exact c _ H1 false e1 rfl (h2 rfl)⟩
theorem ev_orV {k : Bool → Prop} (h : EvK W ta Γ fun a : Bool => (a = true → k true) ∧ (a = false → EvK W tb Γ k)) : EvK W (tOrV ta tb) Γ k := fun σ H Q E c =>
  h σ H _ E fun x H1 a e1 d1 ⟨h1, h2⟩ => ⟨a, d1, by
    cases a with
    | true => exact c _ H1 true e1 rfl (h1 rfl)
    | false => exact h2 rfl σ H1 Q (E.ext e1) fun v H2 a e2 d z => c v H2 a (e1.trans e2) d z⟩
theorem ev_notV {k : Bool → Prop} (h : EvK W ta Γ fun a : Bool => k (!a)) : EvK W (tNotV ta) Γ k := fun σ H Q E c =>
  h σ H _ E fun x H1 a e1 d1 h1 => ⟨a, d1, c _ H1 _ e1 rfl h1⟩
theorem et_test {k : Bool → Prop} (h : EvK W te Γ k) : EvT W (tTest te) Γ k := fun σ H Q E c => h σ H _ E fun v H1 b e1 d z => ⟨b, d, c H1 b e1 z⟩
theorem et_B {k : Bool → Prop} (h : EvK W te Γ k) : EvT W (tB te) Γ k := fun σ H Q E c => h σ H _ E fun v H1 b e1 d z => ⟨b, d, c H1 b e1 z⟩
theorem et_not {k : Bool → Prop} (h : EvT W tt Γ fun b => k (!b)) : EvT W (tNot tt) Γ k := fun σ H Q E c => h σ H _ E fun H1 b e1 z => c H1 _ e1 z
theorem et_and {k : Bool → Prop} (h : EvT W tt Γ fun a => (a = true → EvT W tu Γ k) ∧ (a = false → k false)) : EvT W (tAnd tt tu) Γ k := fun σ H Q E c =>
  h σ H _ E fun H1 a e1 ⟨h1, h2⟩ => by
    cases a with
    | true => exact h1 rfl σ H1 Q (E.ext e1) fun H2 b e2 z => c H2 b (e1.trans e2) z
    | false => exact c H1 false e1 (h2 rfl)
theorem et_or {k : Bool → Prop} (h : EvT W tt Γ fun a => (a = true → k true) ∧ (a = false → EvT W tu Γ k)) : EvT W (tOr tt tu) Γ k := fun σ H Q E c =>
  h σ H _ E fun H1 a e1 ⟨h1, h2⟩ => by
    cases a with
    | true => exact c H1 true e1 (h1 rfl)
    | false => exact h2 rfl σ H1 Q (E.ext e1) fun H2 b e2 z => c H2 b (e1.trans e2) z
theorem et_yes {k : Bool → Prop} (q : k true) : EvT W tYes Γ k := fun σ H Q E c => c H true (Ext.refl E.ok) q
theorem ea_nil {k : List Ty → Prop} (q : k []) : EvA W tNil Γ k := fun σ H Q E c => c [] H [] (Ext.refl E.ok) .nil q
theorem ea_cons {α : Type} {rα : Rep α} {tr : TA} {k : List Ty → Prop} (h : EvK W te Γ fun a : α => EvA W tr Γ fun ts => k (T a :: ts)) : EvA W (tCons te tr) Γ k := fun σ H Q E c =>
  h σ H _ E fun v H1 a e1 d h1 => h1 σ H1 _ (E.ext e1) fun vs H2 ts e2 ds z => c (v :: vs) H2 _ (e1.trans e2) (.cons (Ty.mono (t := T a) e2.keep d) ds) z
theorem ev_tup2 {α β : Type} {rα : Rep α} {rβ : Rep β} {k : α × β → Prop} (h : EvK W ta Γ fun a : α => EvK W tb Γ fun b : β => k (a, b)) : EvK W (tTup (tCons ta (tCons tb tNil))) Γ k := fun σ H Q E c =>
  h σ H _ E fun x H1 a e1 d1 h1 => h1 σ H1 _ (E.ext e1) fun y H2 b e2 d2 z => ⟨by show 2 ≤ sizeLine; decide, fun p hp =>
    have e3 := Ext.new (o := .tup [x, y]) e2.ok hp
    c _ _ (a, b) ((e1.trans e2).trans e3) ⟨p, x, y, rfl, Tq.new (fresh_mu e2.ok hp) upd_same, Rep.mono (e2.trans e3).keep d1, Rep.mono e3.keep d2⟩ z⟩
theorem ev_tup3 {α β γ : Type} {rα : Rep α} {rβ : Rep β} {rγ : Rep γ} {k : T3 α β γ → Prop} (h : EvK W ta Γ fun a : α => EvK W tb Γ fun b : β => EvK W tc Γ fun c : γ => k ⟨a, b, c⟩) : EvK W (tTup (tCons ta (tCons tb (tCons tc tNil)))) Γ k := fun σ H Q E c =>
  h σ H _ E fun x H1 a e1 d1 h1 => h1 σ H1 _ (E.ext e1) fun y H2 b e2 d2 h2 => h2 σ H2 _ ((E.ext e1).ext e2) fun u H3 b3 e3 d3 z => ⟨by show 3 ≤ sizeLine; decide, fun p hp =>
    have e4 := Ext.new (o := .tup [x, y, u]) e3.ok hp
    c _ _ ⟨a, b, b3⟩ (((e1.trans e2).trans e3).trans e4) ⟨p, x, y, u, rfl, Tq.new (fresh_mu e3.ok hp) upd_same, Rep.mono ((e2.trans e3).trans e4).keep d1, Rep.mono (e3.trans e4).keep d2, Rep.mono e4.keep d3⟩ z⟩
/-- items of a display, all of one kind -/
def EvL {α : Type} [Rep α] (W : Wd) (ta : TA) (Γ : Gam) (k : List α → Prop) : Prop :=
  ∀ σ H (Q : List V → Hp → Prop), GOk W H σ Γ → (∀ vs H' as, Ext W H H' → Dl (den W H') vs as → k as → Q vs H') → ta σ H Q
theorem el_nil {α : Type} {rα : Rep α} {k : List α → Prop} (q : k []) : EvL W tNil Γ k := fun σ H Q E c => c [] H [] (Ext.refl E.ok) .nil q
theorem el_cons {α : Type} {rα : Rep α} {tr : TA} {k : List α → Prop} (h : EvK W te Γ fun a : α => EvL W tr Γ fun as => k (a :: as)) : EvL W (tCons te tr) Γ k := fun σ H Q E c =>
  h σ H _ E fun v H1 a e1 d h1 => h1 σ H1 _ (E.ext e1) fun vs H2 as e2 ds z => c (v :: vs) H2 _ (e1.trans e2) (.cons (Rep.mono e2.keep d) ds) z
theorem ev_lst {α : Type} {rα : Rep α} {t : TA} {k : List α → Prop} (h : EvL W t Γ fun as => as.length ≤ 100000 ∧ k as) : EvK W (tLst t) Γ k := fun σ H Q E c =>
  h σ H _ E fun vs H1 as e1 ds ⟨hl, z⟩ => ⟨Nat.le_trans (by rw [ds.length]; exact hl) (by decide : 100000 ≤ sizeLine), fun p hp =>
    have e2 := Ext.new (o := .lst vs) e1.ok hp
    c _ _ as (e1.trans e2) ⟨p, vs, rfl, Lq.new (fresh_mu e1.ok hp) upd_same, ds.imp fun _ _ d => Rep.mono e2.keep d⟩ z⟩
end
class Dat (α : Type) [Rep α] where
  toD : α → PyData
  dp : ∀ {W : Wc} {H : Hp} {v : V} {a : α}, den W H v a → Dp W.B.K H v (toD a)
  dep : Nat
  ddep : ∀ a : α, (toD a).depth ≤ dep
  inj : ∀ a b : α, PyData.eqv (toD a) (toD b) = true ↔ a = b
  good : α → Prop
  gshp : ∀ a : α, good a → (toD a).canLay0 = true
instance : Dat Int := ⟨fun i => .int i, fun h => by cases h; exact .int _, 0, fun _ => Nat.le_refl 0, fun a b => by show (a == b) = true ↔ a = b; exact beq_iff_eq, fun _ => True, fun _ _ => rfl⟩
instance : Dat Bool := ⟨fun i => .bool i, fun h => by cases h; exact .bl _, 0, fun _ => Nat.le_refl 0, fun a b => by show (a == b) = true ↔ a = b; exact beq_iff_eq, fun _ => True, fun _ _ => rfl⟩
instance : Dat Str := ⟨fun i => .str i, fun h => by cases h; exact .str _, 0, fun _ => Nat.le_refl 0, fun a b => by show (a == b) = true ↔ a = b; exact beq_iff_eq, fun x => (PyData.str x).canLay0 = true, fun _ h => h⟩
instance : Dat Unit := ⟨fun _ => .none, fun h => by cases h; exact .non, 0, fun _ => Nat.le_refl 0, fun a b => ⟨fun _ => rfl, fun _ => rfl⟩, fun _ => True, fun _ _ => rfl⟩
theorem eqv2 (a b c d : PyData) : PyData.eqv (.tuple [a, b]) (.tuple [c, d]) = (PyData.eqv a c && PyData.eqv b d) := by
  show (PyData.eqv a c && (PyData.eqv b d && true)) = _
  rw [Bool.and_true]
theorem eqv3 (a b c d e f : PyData) : PyData.eqv (.tuple [a, b, e]) (.tuple [c, d, f]) = (PyData.eqv a c && (PyData.eqv b d && PyData.eqv e f)) := by
  show (PyData.eqv a c && (PyData.eqv b d && (PyData.eqv e f && true))) = _
  rw [Bool.and_true]
instance {α β : Type} [Rep α] [Rep β] [Dat α] [Dat β] : Dat (α × β) where
  toD := fun x => .tuple [Dat.toD x.1, Dat.toD x.2]
  dp := fun ⟨p, x, y, hv, s, h1, h2⟩ => by
    subst hv
    exact .tup s.sq (.cons (Dat.dp h1) (.cons (Dat.dp h2) .nil))
  dep := max (Dat.dep α) (Dat.dep β) + 1
  ddep := fun x => by
    have h1 := Dat.ddep x.1
    have h2 := Dat.ddep x.2
    show max (Dat.toD x.1).depth (max (Dat.toD x.2).depth 0) + 1 ≤ _
    omega
  inj := fun x y => by
    rw [eqv2, Bool.and_eq_true, Dat.inj, Dat.inj]
    exact ⟨fun h => Prod.ext h.1 h.2, fun h => by rw [h]; exact ⟨rfl, rfl⟩⟩
  good := fun x => Dat.good x.1 ∧ Dat.good x.2
  gshp := fun x h => by
    have h1 := Dat.gshp _ h.1
    have h2 := Dat.gshp _ h.2
    show ((Dat.toD x.1).canLay0 && ((Dat.toD x.2).canLay0 && true)) = true
    rw [h1, h2]
    rfl
instance {α β γ : Type} [Rep α] [Rep β] [Rep γ] [Dat α] [Dat β] [Dat γ] : Dat (T3 α β γ) where
  toD := fun x => .tuple [Dat.toD x.a, Dat.toD x.b, Dat.toD x.c]
  dp := fun ⟨p, x, y, z, hv, s, h1, h2, h3⟩ => by
    subst hv
    exact .tup s.sq (.cons (Dat.dp h1) (.cons (Dat.dp h2) (.cons (Dat.dp h3) .nil)))
  dep := max (Dat.dep α) (max (Dat.dep β) (Dat.dep γ)) + 1
  ddep := fun x => by
    have h1 := Dat.ddep x.a
    have h2 := Dat.ddep x.b
    have h3 := Dat.ddep x.c
    show max (Dat.toD x.a).depth (max (Dat.toD x.b).depth (max (Dat.toD x.c).depth 0)) + 1 ≤ _
    omega
  inj := fun x y => by
    rw [eqv3, Bool.and_eq_true, Bool.and_eq_true, Dat.inj, Dat.inj, Dat.inj]
    cases x; cases y
    exact ⟨fun h => by obtain ⟨h1, h2, h3⟩ := h; cases h1; cases h2; cases h3; rfl, fun h => by cases h; exact ⟨rfl, rfl, rfl⟩⟩
  good := fun x => Dat.good x.a ∧ Dat.good x.b ∧ Dat.good x.c
  gshp := fun x h => by
    have h1 := Dat.gshp _ h.1
    have h2 := Dat.gshp _ h.2.1
    have h3 := Dat.gshp _ h.2.2
    show ((Dat.toD x.a).canLay0 && ((Dat.toD x.b).canLay0 && ((Dat.toD x.c).canLay0 && true))) = true
    rw [h1, h2, h3]
    rfl
theorem dpAll {α : Type} [Rep α] [Dat α] {W : Wc} {H : Hp} : ∀ {vs : List V} {as : List α}, Dl (den W H) vs as → DpAll W.B.K H vs (as.map Dat.toD)
  | _, _, .nil => .nil
  | _, _, .cons x y => .cons (Dat.dp x) (dpAll y)
theorem depAll {α : Type} [Rep α] [Dat α] : ∀ as : List α, PyData.depthAll (as.map Dat.toD) ≤ Dat.dep α
  | [] => Nat.zero_le _
  | a :: r => by
    have h1 := Dat.ddep a
    have h2 := depAll r
    show max (Dat.toD a).depth (PyData.depthAll (r.map Dat.toD)) ≤ _
    omega
theorem injAll {α : Type} [Rep α] [Dat α] : ∀ as bs : List α, PyData.eqvAll (as.map Dat.toD) (bs.map Dat.toD) = true ↔ as = bs
  | [], [] => ⟨fun _ => rfl, fun _ => rfl⟩
  | [], _ :: _ => ⟨fun h => Bool.noConfusion h, fun h => nomatch h⟩
  | _ :: _, [] => ⟨fun h => Bool.noConfusion h, fun h => nomatch h⟩
  | a :: r, b :: s => by
    show (PyData.eqv (Dat.toD a) (Dat.toD b) && PyData.eqvAll (r.map Dat.toD) (s.map Dat.toD)) = true ↔ _
    rw [Bool.and_eq_true, Dat.inj, injAll r s]
    exact ⟨fun h => by rw [h.1, h.2], fun h => by injection h with h1 h2; exact ⟨h1, h2⟩⟩
theorem shpAll {α : Type} [Rep α] [Dat α] : ∀ as : List α, (∀ a ∈ as, Dat.good a) → PyData.canLayAll0 (as.map Dat.toD) = true
  | [], _ => rfl
  | a :: r, h => by
    show ((Dat.toD a).canLay0 && PyData.canLayAll0 (r.map Dat.toD)) = true
    rw [Dat.gshp _ (h a List.mem_cons_self), shpAll r fun x hx => h x (List.mem_cons_of_mem _ hx)]
    rfl
instance {α : Type} [Rep α] [Dat α] : Dat (List α) where
  toD := fun x => .list (x.map Dat.toD)
  dp := fun ⟨p, vs, hv, s, h⟩ => by
    subst hv
    exact .lst s.sq (dpAll h)
  dep := Dat.dep α + 1
  ddep := fun x => Nat.succ_le_succ (depAll x)
  inj := fun x y => injAll x y
  good := fun x => ∀ a ∈ x, Dat.good a
  gshp := fun x h => shpAll x h
section
variable {W : Wd} {Γ : Gam} {ta tb tc te : TE} {tt tu : TT}
theorem shaped_of {α : Type} [Rep α] [Dat α] {a : α} (g : Dat.good a) (h : Dat.dep α ≤ 64) : SeqAt.shaped (Dat.toD a) = true := by
  unfold SeqAt.shaped
  rw [Dat.gshp a g, decide_eq_true (Nat.le_trans (Dat.ddep a) h)]
  rfl
theorem eqv_dec {α : Type} [Rep α] [Dat α] [DecidableEq α] (a b : α) : PyData.eqv (Dat.toD a) (Dat.toD b) = decide (a = b) := by
  by_cases e : a = b
  · rw [decide_eq_true e]; exact (Dat.inj a b).mpr e
  · rw [decide_eq_false e]
    cases q : PyData.eqv (Dat.toD a) (Dat.toD b) with
    | false => rfl
    | true => exact absurd ((Dat.inj a b).mp q) e
theorem ev_ixL {α : Type} {rα : Rep α} {K : PySem.W.Frag} {k : α → Prop} (hK : W.B.K = K) (h : EvK W ta Γ fun as : List α => EvK W tb Γ fun i : Int => ∃ a, atI as i = some a ∧ k a) : EvK W (tOp (rIxL K) ta tb) Γ k := by
  subst hK
  refine ev_two (h.imp fun as ha => ha.imp fun i ⟨a, hi, z⟩ x y H Q o dx dy c => ?_)
  obtain ⟨p, vs, rfl, hp, hd⟩ := dx
  have e : ∃ v, atI vs i = some v ∧ den W H v a := by
    unfold atI at hi ⊢
    rw [hd.length]
    cases q : ixN as.length i with
    | none => rw [q] at hi; cases hi
    | some j =>
      rw [q, Option.bind_some] at hi
      rw [Option.bind_some]
      exact hd.at' hi
  obtain ⟨v, hv, dv⟩ := e
  exact ⟨p, vs, i, v, rfl, dy, hp.sq, hv, c _ H a (Ext.refl o) dv z⟩
theorem ev_ixT0 {α β : Type} {rα : Rep α} {rβ : Rep β} {K : PySem.W.Frag} {k : α → Prop} (hK : W.B.K = K) (h : EvK W ta Γ fun p : α × β => k p.1) : EvK W (tOp (rIxT K) ta (tC (.int 0))) Γ k := by
  subst hK
  refine fun σ H Q E c => h σ H _ E fun v H1 a e1 ⟨p, x, y, hv, s, d1, d2⟩ z => ?_
  exact ⟨p, _, 0, x, hv, rfl, s.sq, rfl, c _ H1 _ e1 d1 z⟩
theorem ev_ixT1 {α β : Type} {rα : Rep α} {rβ : Rep β} {K : PySem.W.Frag} {k : β → Prop} (hK : W.B.K = K) (h : EvK W ta Γ fun p : α × β => k p.2) : EvK W (tOp (rIxT K) ta (tC (.int 1))) Γ k := by
  subst hK
  refine fun σ H Q E c => h σ H _ E fun v H1 a e1 ⟨p, x, y, hv, s, d1, d2⟩ z => ?_
  exact ⟨p, _, 1, y, hv, rfl, s.sq, rfl, c _ H1 _ e1 d2 z⟩
theorem ev_cat {α : Type} {rα : Rep α} {k : List α → Prop} (h : EvK W ta Γ fun as : List α => EvK W tb Γ fun bs : List α => as.length + bs.length ≤ 100000 ∧ k (as ++ bs)) : EvK W (tOp rCat ta tb) Γ k := by
  refine ev_two (h.imp fun as ha => ha.imp fun bs ⟨hl, z⟩ x y H Q o dx dy c => ?_)
  obtain ⟨p, vs, rfl, hp, hd⟩ := dx
  obtain ⟨q, ws, rfl, hq, hd2⟩ := dy
  refine ⟨p, q, vs, ws, rfl, rfl, hp.2, hq.2, Nat.le_trans (by rw [hd.length, hd2.length]; exact hl) (by decide : 100000 ≤ sizeLine), fun l hl => ?_⟩
  have e := Ext.new (o := .lst (vs ++ ws)) o hl
  exact c _ _ _ e ⟨l, _, rfl, Lq.new (fresh_mu o hl) upd_same, (hd.append hd2).imp fun _ _ d => Rep.mono e.keep d⟩ z
theorem ev_len {α : Type} {rα : Rep α} {K : PySem.W.Frag} {k : Int → Prop} (hK : W.B.K = K) (h : EvK W te Γ fun as : List α => k (as.length : Int)) : EvK W (tCB (fun xs H Q => ∃ p ys, xs = [.ref p] ∧ (SqL K H p ys ∨ SqT K H p ys) ∧ Q (.int ys.length) H) (tCons te tNil)) Γ k := by
  subst hK
  refine fun σ H Q E c => h σ H _ E fun v H1 as e1 ⟨p, vs, hv, hp, hd⟩ z => ?_
  exact ⟨p, vs, by rw [hv], .inl hp.sq, c _ H1 _ e1 (congrArg (fun n : Nat => V.int n) hd.length) z⟩
/-- int(x) of an int -/
theorem ev_intI {k : Int → Prop} (h : EvK W te Γ fun i : Int => k i) : EvK W (tCB (fun xs H Q => (∃ i, xs = [.int i] ∧ Q (.int i) H) ∨ ∃ k, xs = [.bl k] ∧ Q (.int (if k then 1 else 0)) H) (tCons te tNil)) Γ k :=
  fun σ H Q E c => h σ H _ E fun v H1 i e1 d z => .inl ⟨i, congrArg (fun x => [x]) d, c _ H1 i e1 rfl z⟩
/-- a chain of two comparisons of ints -/
theorem ev_chain {f g : Int → Int → Bool} {k : Bool → Prop} (h : EvK W ta Γ fun i : Int => EvK W tb Γ fun j : Int => (f i j = true → EvK W tc Γ fun l : Int => k (g j l)) ∧ (f i j = false → k false)) :
    EvK W (tChain (rI0 fun i j => .bl (f i j)) (rI0 fun i j => .bl (g i j)) ta tb tc) Γ k := by
  refine fun σ H Q E c => h σ H _ E fun x H1 i e1 d1 h1 => h1 σ H1 _ (E.ext e1) fun y H2 j e2 d2 h2 => ?_
  refine ⟨i, j, d1, d2, f i j, rfl, ?_⟩
  by_cases q : f i j = true
  · rw [if_pos q]
    exact h2.1 q σ H2 _ ((E.ext e1).ext e2) fun z H3 l e3 d3 h3 => ⟨j, l, d2, d3, c _ H3 _ ((e1.trans e2).trans e3) rfl h3⟩
  · rw [if_neg q]
    exact c _ H2 _ (e1.trans e2) rfl (h2.2 (by simpa using q))
end
/-- js: the slots that the target sets -/
def Sm (js : List Nat) (σ σ' : St) : Prop := σ'.length = σ.length ∧ ∀ i : Nat, i ∉ js → σ'[i]? = σ[i]?
def Tj {α : Type} [Rep α] (W : Wd) (js : List Nat) (g : TG) (Γ : Gam) (a : α) (k : Gam → Prop) : Prop :=
  ∀ σ H v (Q : St → Hp → Prop), GOk W H σ Γ → den W H v a → (∀ σ' Γ', GOk W H σ' Γ' → Sm js σ σ' → k Γ' → Q σ' H) → g v σ H Q
abbrev Tg {α : Type} [Rep α] (W : Wd) (g : TG) (Γ : Gam) (a : α) (k : Gam → Prop) : Prop := ∃ js, Tj W js g Γ a k
structure Po where
  nx : Gam → Prop
  rt : Ty → Prop
  bk : Gam → Prop := fun _ => False
  ct : Gam → Prop := fun _ => False
structure EOk (W : Wd) (H : Hp) (D : Ends) (R : Po) : Prop where
  nx : ∀ σ' H' Γ', Ext W H H' → GOk W H' σ' Γ' → R.nx Γ' → D.nx σ' H'
  rt : ∀ v H' (t : Ty), Ext W H H' → t.den W H' v → R.rt t → D.rt v H'
  bk : ∀ σ' H' Γ', Ext W H H' → GOk W H' σ' Γ' → R.bk Γ' → D.bk σ' H'
  ct : ∀ σ' H' Γ', Ext W H H' → GOk W H' σ' Γ' → R.ct Γ' → D.ct σ' H'
theorem EOk.ext {W : Wd} {H H1 : Hp} {D : Ends} {R : Po} (h : EOk W H D R) (e : Ext W H H1) : EOk W H1 D R :=
  ⟨fun a b c d => h.nx a b c (e.trans d), fun a b c d => h.rt a b c (e.trans d), fun a b c d => h.bk a b c (e.trans d), fun a b c d => h.ct a b c (e.trans d)⟩
def Sx (W : Wd) (t : TS) (Γ : Gam) (R : Po) : Prop := ∀ D σ H, GOk W H σ Γ → EOk W H D R → t D σ H
section
variable {W : Wd} {Γ : Gam} {ta tb tc te : TE} {tt : TT} {t u : TS} {R : Po} {g : TG}
theorem tj_name {α : Type} {rα : Rep α} {i : Nat} {a : α} {k : Gam → Prop} (q : k (Γ.set i (some (T a)))) : Tj W [i] (gName i) Γ a k := fun σ H v Q E d c =>
  c _ _ (E.set i (t := T a) d) ⟨List.length_set, fun j hj => List.getElem?_set_ne (fun z => hj (by rw [z]; exact List.mem_singleton.mpr rfl))⟩ q
theorem tj_tup2 {α β : Type} {rα : Rep α} {rβ : Rep β} {K : PySem.W.Frag} {g1 g2 : TG} {j1 j2 : List Nat} {a : α × β} {k : Gam → Prop} (hK : W.B.K = K) (q : Tj W j1 g1 Γ a.1 fun Γ1 => Tj W j2 g2 Γ1 a.2 k) : Tj W (j1 ++ j2) (gTup K 2 (gCons g1 (gCons g2 gNil))) Γ a k := by
  subst hK
  refine fun σ H v Q E ⟨p, x, y, hv, s, d1, d2⟩ c => ⟨p, [x, y], hv, s.sq, rfl, ?_⟩
  refine ⟨x, [y], rfl, ?_⟩
  refine q σ H x _ E d1 fun σ1 Γ1 E1 m1 q1 => ?_
  exact ⟨y, [], rfl, q1 σ1 H y _ E1 d2 fun σ2 Γ2 E2 m2 q2 => ⟨rfl, c σ2 Γ2 E2 ⟨m2.1.trans m1.1, fun i hi => (m2.2 i fun z => hi (List.mem_append_right _ z)).trans (m1.2 i fun z => hi (List.mem_append_left _ z))⟩ q2⟩⟩
theorem tj_tup3 {α β γ : Type} {rα : Rep α} {rβ : Rep β} {rγ : Rep γ} {K : PySem.W.Frag} {g1 g2 g3 : TG} {j1 j2 j3 : List Nat} {a : T3 α β γ} {k : Gam → Prop} (hK : W.B.K = K) (q : Tj W j1 g1 Γ a.a fun Γ1 => Tj W j2 g2 Γ1 a.b fun Γ2 => Tj W j3 g3 Γ2 a.c k) : Tj W (j1 ++ (j2 ++ j3)) (gTup K 3 (gCons g1 (gCons g2 (gCons g3 gNil)))) Γ a k := by
  subst hK
  refine fun σ H v Q E ⟨p, x, y, z, hv, s, d1, d2, d3⟩ c => ⟨p, [x, y, z], hv, s.sq, rfl, ?_⟩
  refine ⟨x, [y, z], rfl, ?_⟩
  refine q σ H x _ E d1 fun σ1 Γ1 E1 m1 q1 => ⟨y, [z], rfl, ?_⟩
  refine q1 σ1 H y _ E1 d2 fun σ2 Γ2 E2 m2 q2 => ⟨z, [], rfl, ?_⟩
  exact q2 σ2 H z _ E2 d3 fun σ3 Γ3 E3 m3 q3 => ⟨rfl, c σ3 Γ3 E3 ⟨(m3.1.trans m2.1).trans m1.1, fun i hi => ((m3.2 i fun z => hi (List.mem_append_right _ (List.mem_append_right _ z))).trans (m2.2 i fun z => hi (List.mem_append_right _ (List.mem_append_left _ z)))).trans (m1.2 i fun z => hi (List.mem_append_left _ z))⟩ q3⟩
theorem tg_name {α : Type} {rα : Rep α} {i : Nat} {a : α} {k : Gam → Prop} (q : k (Γ.set i (some (T a)))) : Tg W (gName i) Γ a k := ⟨_, tj_name q⟩
theorem tg_of {α : Type} {rα : Rep α} {js : List Nat} {a : α} {k : Gam → Prop} (q : Tj W js g Γ a k) : Tg W g Γ a k := ⟨_, q⟩
theorem sx_seq (h : Sx W t Γ { R with nx := fun Γ' => Sx W u Γ' R }) : Sx W (tSeq t u) Γ R := fun D σ H E O =>
  h _ σ H E ⟨fun σ' H' Γ' e G q => q D σ' H' G (O.ext e), O.rt, O.bk, O.ct⟩
theorem sx_next (q : R.nx Γ) : Sx W tNext Γ R := fun D σ H E O => O.nx σ H Γ (Ext.refl E.ok) E q
theorem sx_asg {α : Type} {rα : Rep α} (h : EvK W te Γ fun a : α => Tg W g Γ a R.nx) : Sx W (tAsg te g) Γ R := fun D σ H E O =>
  h σ H _ E fun v H1 a e1 d ⟨_, h1⟩ => h1 σ H1 v _ (E.ext e1) d fun σ' Γ' G _ q => O.nx σ' H1 Γ' e1 G q
theorem sx_set {α : Type} {rα : Rep α} {i : Nat} (h : EvK W te Γ fun a : α => R.nx (Γ.set i (some (T a)))) : Sx W (tAsg te (gName i)) Γ R := sx_asg (h.imp fun a q => tg_name q)
theorem sx_drop {α : Type} {rα : Rep α} (h : EvK W te Γ fun _ : α => R.nx Γ) : Sx W (tDrop te) Γ R := fun D σ H E O =>
  h σ H _ E fun v H1 a e1 d q => O.nx σ H1 Γ e1 (E.ext e1) q
theorem sx_ret {α : Type} {rα : Rep α} (h : EvK W te Γ fun a : α => R.rt (T a)) : Sx W (tRet te) Γ R := fun D σ H E O =>
  h σ H _ E fun v H1 a e1 d q => O.rt v H1 (T a) e1 d q
theorem sx_retN (q : R.rt (T ())) : Sx W tRetN Γ R := fun D σ H E O => O.rt .non H (T ()) (Ext.refl E.ok) rfl q
theorem sx_if (h : EvT W tt Γ fun b => (b = true → Sx W t Γ R) ∧ (b = false → Sx W u Γ R)) : Sx W (tIfS tt t u) Γ R := fun D σ H E O =>
  h σ H _ E fun H1 b e1 ⟨h1, h2⟩ => by
    cases b with
    | true => exact h1 rfl D σ H1 (E.ext e1) (O.ext e1)
    | false => exact h2 rfl D σ H1 (E.ext e1) (O.ext e1)
/-- for x in a list -/
theorem sx_forL {α : Type} {rα : Rep α} {K : PySem.W.Frag} (hK : W.B.K = K) (h : EvK W te Γ fun as : List α => ∃ I : Nat → Gam → Prop, I 0 Γ ∧
      (∀ (i : Nat) (a : α) Γ', as[i]? = some a → I i Γ' → Tg W g Γ' a fun Γ1 => Sx W t Γ1 { R with nx := I (i + 1), ct := I (i + 1), bk := R.nx }) ∧ ∀ Γ', I as.length Γ' → R.nx Γ') : Sx W (tFor (iList K te) g t) Γ R := by
  subst hK
  refine fun D σ H E O => h σ H _ E fun v H1 as e1 ⟨p, vs, hv, hp, hd⟩ ⟨I, h0, hs, hl⟩ => ?_
  refine ⟨p, hv, ⟨vs, hp.sq⟩, for_list (K := W.B.K) (a := p) (xs := vs) (fun i σ' H' => Ext W H1 H' ∧ ∃ Γ', GOk W H' σ' Γ' ∧ I i Γ') ⟨Ext.refl e1.ok, Γ, E.ext e1, h0⟩ (fun i σ' H' _ ⟨e, _⟩ => (hp.mono e.keep).sq) ?_ ?_⟩
  · rintro i x σ' H' hx ⟨e, Γ', G, q⟩
    obtain ⟨a, ha, da⟩ := (hd.imp fun _ _ d => Rep.mono e.keep d).at hx
    obtain ⟨js, hj⟩ := hs i a Γ' ha q
    refine hj σ' H' x _ G da fun σ2 Γ2 G2 _ q2 => ?_
    exact q2 _ σ2 H' G2 ⟨fun σ3 H3 Γ3 e3 G3 q3 => ⟨e.trans e3, Γ3, G3, q3⟩, fun v3 H3 t3 e3 d3 q3 => O.rt v3 H3 t3 ((e1.trans e).trans e3) d3 q3,
      fun σ3 H3 Γ3 e3 G3 q3 => O.nx σ3 H3 Γ3 ((e1.trans e).trans e3) G3 q3, fun σ3 H3 Γ3 e3 G3 q3 => ⟨e.trans e3, Γ3, G3, q3⟩⟩
  · rintro σ' H' ⟨e, Γ', G, q⟩
    rw [hd.length] at q
    exact O.nx σ' H' Γ' (e1.trans e) G (hl Γ' q)
/-- for x in range(n) -/
theorem sx_forR {R : Po} (h : EvK W te Γ fun n : Int => (-(2 ^ 62) ≤ n ∧ n < 2 ^ 62) ∧ ∃ I : Nat → Gam → Prop, I 0 Γ ∧
      (∀ (i : Nat) Γ', i < n.toNat → I i Γ' → Tg W g Γ' (i : Int) fun Γ1 => Sx W t Γ1 { R with nx := I (i + 1), ct := I (i + 1), bk := R.nx }) ∧ ∀ Γ', I n.toNat Γ' → R.nx Γ') : Sx W (tFor (iRng1 (tCons te tNil)) g t) Γ R := by
  refine fun D σ H E O => h σ H _ E fun v H1 n e1 hv ⟨⟨b1, b2⟩, I, h0, hs, hl⟩ => ?_
  refine ⟨n, congrArg (fun x => [x]) hv, b1, b2, for_range (lo := 0) (n := n.toNat) (fun i σ' H' => Ext W H1 H' ∧ ∃ Γ', GOk W H' σ' Γ' ∧ I i Γ') ⟨Ext.refl e1.ok, Γ, E.ext e1, h0⟩ ?_ ?_⟩
  · rintro i σ' H' hi ⟨e, Γ', G, q⟩
    obtain ⟨js, hj⟩ := hs i Γ' hi q
    refine hj σ' H' _ _ G (by show V.int ((0 : Int) + i) = .int i; rw [Int.zero_add]) fun σ2 Γ2 G2 _ q2 => ?_
    exact q2 _ σ2 H' G2 ⟨fun σ3 H3 Γ3 e3 G3 q3 => ⟨e.trans e3, Γ3, G3, q3⟩, fun v3 H3 t3 e3 d3 q3 => O.rt v3 H3 t3 ((e1.trans e).trans e3) d3 q3,
      fun σ3 H3 Γ3 e3 G3 q3 => O.nx σ3 H3 Γ3 ((e1.trans e).trans e3) G3 q3, fun σ3 H3 Γ3 e3 G3 q3 => ⟨e.trans e3, Γ3, G3, q3⟩⟩
  · rintro σ' H' ⟨e, Γ', G, q⟩
    exact O.nx σ' H' Γ' (e1.trans e) G (hl Γ' q)
end
theorem wipe_in {σ : St} {i : Nat} : ∀ {vs : List Nat}, i ∈ vs → i < σ.length → (wipe σ vs)[i]? = some none
  | j :: r, h, hl => by
    show ((wipe σ r).set j none)[i]? = some none
    by_cases e : j = i
    · subst e
      exact List.getElem?_set_self (by rw [wipe_length]; exact hl)
    · rw [List.getElem?_set_ne e]
      exact wipe_in ((List.mem_cons.mp h).resolve_left fun z => e z.symm) hl
theorem wipe_same {σ σ' : St} {vs js : List Nat} (h : Sm js (wipe σ vs) σ') (hs : ∀ j ∈ js, j ∈ vs) : wipe σ' vs = wipe σ vs := by
  have hl : σ'.length = σ.length := h.1.trans (wipe_length _ _)
  refine List.ext_getElem? fun i => ?_
  by_cases hi : i ∈ vs
  · by_cases hn : i < σ.length
    · rw [wipe_in hi hn, wipe_in hi (by rw [hl]; exact hn)]
    · rw [List.getElem?_eq_none (by rw [wipe_length, hl]; omega), List.getElem?_eq_none (by rw [wipe_length]; omega)]
  · rw [wipe_out hi, h.2 i fun z => hi (hs i z)]
section
variable {W : Wd} {Γ : Gam} {tl te : TE} {tt : TT} {g : TG}
/-- a turn of a comprehension: the item a; I holds of what is made so far -/
def LcTurn {α β : Type} [Rep α] [Rep β] (W : Wd) (g : TG) (tt : TT) (te : TE) (vs : List Nat) (Γ : Gam) (a : α) (no : Prop) (yes : β → Prop) : Prop :=
  ∃ js : List Nat, (js.all fun j => vs.contains j) = true ∧ Tj W js g (wipeE Γ vs) a fun Γ1 => EvT W tt Γ1 fun b => (b = true → EvK W te Γ1 yes) ∧ (b = false → no)
theorem lc_turn {α β : Type} {rα : Rep α} {rβ : Rep β} {vs : List Nat} {D : Addr} {H1 : Hp} {n : H1 D = none} {o1 : W.ok H1} {w1 : W.wish H1} {σ : St} {H' : Hp} {x : V} {a : α} {acc : List V} {bs : List β} {I : List β → Prop} {P : Hp → Prop}
    (t : LcTurn (W.plus D acc H1 n o1 w1) g tt te vs Γ a (I bs) fun y : β => I (bs ++ [y])) (G : GOk W H1 σ Γ) (e : Ext W H1 H') (hD : H' D = some (.lst acc)) (hb : Dl (den (W.toWc.plus D) H') acc bs) (da : den W H1 x a) (hz : acc.length < 100000)
    (fin : ∀ H2 acc2 bs2, Ext W H1 H2 → H2 D = some (.lst acc2) → Dl (den (W.toWc.plus D) H2) acc2 bs2 → acc2.length ≤ acc.length + 1 → I bs2 → P H2) :
    g x (wipe σ vs) H' fun σ2 H2 => wipe σ2 vs = wipe σ vs ∧ tt σ2 H2 fun b H3 => if b = true then te σ2 H3 fun y H4 => ∃ acc, H4 D = some (.lst acc) ∧ acc.length < sizeLine ∧ P (upd H4 D (.lst (acc ++ [y]))) else P H3 := by
  obtain ⟨js, hjs, t⟩ := t
  have nm : ¬ W.mu D := fresh_mu o1 n
  have kp : Kp (W.toWc.plus D) H1 H' := fun b o m z => e.keep b o (fun z => m (.inl z)) z
  have ok' : (W.plus D acc H1 n o1 w1).ok H' := ⟨e.ok, hD⟩
  have G' : GOk (W.plus D acc H1 n o1 w1) H' σ Γ := ⟨ok', fun b o m z => e.keep b o m z, fun i t h => by
    obtain ⟨v, h1, h2⟩ := G.at_ i t h
    exact ⟨v, h1, Ty.mono kp (t.r.grow D n h2)⟩, G.len⟩
  have back : ∀ H2, Ext (W.plus D acc H1 n o1 w1) H' H2 → Ext W H1 H2 := fun H2 e2 => ⟨fun b o m z => by
    have hb : b ≠ D := fun q => by subst q; rw [n] at z; cases z
    exact e2.keep b o (fun q => q.elim m hb) (e.keep b o m z), e2.ok.1⟩
  refine t (wipe σ vs) H' x _ (G'.wipe vs) (Rep.mono kp (Rep.grow D n da)) fun σ2 Γ2 G2 m2 q2 => ⟨?_, ?_⟩
  · exact wipe_same m2 fun j hj => by
      have := List.all_eq_true.mp hjs j hj
      simpa using this
  · refine q2 σ2 H' _ G2 fun H3 b e3 ⟨hy, hn⟩ => ?_
    have hD3 : H3 D = some (.lst acc) := e3.ok.2
    cases b with
    | false =>
      show P H3
      exact fin H3 acc bs (back H3 e3) hD3 (hb.imp fun _ _ d => Rep.mono e3.keep d) (Nat.le_succ _) (hn rfl)
    | true =>
      show te σ2 H3 _
      refine hy rfl σ2 H3 _ (G2.ext e3) fun y H4 b4 e4 d4 q4 => ?_
      have hD4 : H4 D = some (.lst acc) := e4.ok.2
      refine ⟨acc, hD4, Nat.lt_of_lt_of_le hz (by decide : 100000 ≤ sizeLine), ?_⟩
      have e5 := back H4 (e3.trans e4)
      have k5 : Kp (W.toWc.plus D) H4 (upd H4 D (.lst (acc ++ [y]))) := fun b o m z => by
        rw [upd_ne (fun q => m (.inr q))]
        exact z
      refine fin _ (acc ++ [y]) (bs ++ [b4]) ⟨fun b o m z => ?_, W.st _ _ _ e5.ok nm⟩ upd_same ?_ (by rw [List.length_append]; exact Nat.le_refl _) q4
      · rw [upd_ne (fun q => by subst q; rw [n] at z; cases z)]
        exact e5.keep b o m z
      · refine Dl.append (hb.imp fun _ _ d => Rep.mono k5 (Rep.mono (e3.trans e4).keep d)) (.cons (Rep.mono k5 d4) .nil)
/-- a new list: at p, not there before; its items do not lean on p -/
def EvF {β : Type} [Rep β] (W : Wd) (te : TE) (Γ : Gam) (k : List β → Prop) : Prop :=
  ∀ σ H (Q : VK), GOk W H σ Γ → (∀ p H' vs (bs : List β), H p = none → Ext W H H' → H' p = some (.lst vs) → Dl (den (W.toWc.plus p) H') vs bs → k bs → Q (.ref p) H') → te σ H Q
theorem fresh_back {W : Wd} {H H' : Hp} {p : Addr} (o : W.ok H') (e : Ext W H H') (h : H' p = none) : H p = none := by
  cases q : H p with
  | none => rfl
  | some u =>
    rw [e.keep p u (fresh_mu o h) q] at h
    cases h
theorem EvF.k {β : Type} {rβ : Rep β} {k : List β → Prop} (h : EvF W te Γ k) : EvK W te Γ k := fun σ H Q E c =>
  h σ H Q E fun p H' vs bs n e hp hb q => c (.ref p) H' bs e ⟨p, vs, rfl, Lq.new (fun m => by
    obtain ⟨o, z⟩ := W.live H p E.ok m
    rw [n] at z
    cases z) hp, hb.imp fun _ _ d => Rep.shrink p d⟩ q
/-- [te for g in a list if tt] -/
theorem evF_lc {α β : Type} {rα : Rep α} {rβ : Rep β} {K : PySem.W.Frag} {vs : List Nat} {k : List β → Prop} (hK : W.B.K = K)
    (h : EvK W tl Γ fun as : List α => as.length ≤ 100000 ∧ ∃ I : Nat → List β → Prop, I 0 [] ∧ (∀ W', Sub W W' → ∀ (i : Nat) (a : α) (bs : List β), as[i]? = some a → I i bs → LcTurn W' g tt te vs Γ a (I (i + 1) bs) fun y : β => I (i + 1) (bs ++ [y])) ∧ ∀ bs, I as.length bs → k bs) :
    EvF W (tLc (iList K tl) g tt te vs) Γ k := by
  subst hK
  refine fun σ H Q E c => h σ H _ E fun v H1 as e1 ⟨p, xs, hv, hp, hd⟩ ⟨hl, I, h0, hs, hf⟩ => ⟨p, hv, ⟨xs, hp.sq⟩, fun D n => ?_⟩
  have G1 := E.ext e1
  have eD : Ext W H1 (upd H1 D (.lst [])) := Ext.new e1.ok n
  refine lc_list (xs := xs) (fun i H' => Ext W H1 H' ∧ ∃ acc bs, H' D = some (.lst acc) ∧ Dl (den (W.toWc.plus D) H') acc bs ∧ acc.length ≤ i ∧ I i bs) ⟨eD, [], [], upd_same, .nil, Nat.le_refl _, h0⟩ (fun i H' _ ⟨e, _⟩ => (hp.mono e.keep).sq) ?_ ?_
  · rintro i x H' hx ⟨e, acc, bs, hD, hb, ha, q⟩
    obtain ⟨a, ea, da⟩ := hd.at hx
    have hil : i < as.length := (List.getElem?_eq_some_iff.mp ea).1
    exact lc_turn (I := I (i + 1)) (P := fun H' => Ext W H1 H' ∧ ∃ acc bs, H' D = some (.lst acc) ∧ Dl (den (W.toWc.plus D) H') acc bs ∧ acc.length ≤ i + 1 ∧ I (i + 1) bs) (hs _ (Sub.plus (n := n) (o1 := e1.ok) (w1 := G1.wish)) i a bs ea q) G1 e hD hb da (by omega) fun H2 acc2 bs2 e2 hD2 hb2 hl2 q2 => ⟨e2, acc2, bs2, hD2, hb2, by omega, q2⟩
  · rintro H' ⟨e, acc, bs, hD, hb, ha, q⟩
    rw [hd.length] at q
    exact c D H' acc bs (fresh_back e1.ok e1 n) (e1.trans e) hD hb (hf bs q)
theorem ev_lc {α β : Type} {rα : Rep α} {rβ : Rep β} {K : PySem.W.Frag} {vs : List Nat} {k : List β → Prop} (hK : W.B.K = K)
    (h : EvK W tl Γ fun as : List α => as.length ≤ 100000 ∧ ∃ I : Nat → List β → Prop, I 0 [] ∧ (∀ W', Sub W W' → ∀ (i : Nat) (a : α) (bs : List β), as[i]? = some a → I i bs → LcTurn W' g tt te vs Γ a (I (i + 1) bs) fun y : β => I (i + 1) (bs ++ [y])) ∧ ∀ bs, I as.length bs → k bs) :
    EvK W (tLc (iList K tl) g tt te vs) Γ k := (evF_lc hK h).k
/-- a pure one -/
theorem ev_lcF {α β : Type} [rα : Rep α] [rβ : Rep β] {K : PySem.W.Frag} {vs : List Nat} {k : List β → Prop} (p : α → Bool) (f : α → β) (hK : W.B.K = K)
    (h : EvK W tl Γ fun as : List α => as.length ≤ 100000 ∧ (∀ W', Sub W W' → ∀ a ∈ as, LcTurn W' g tt te vs Γ a (p a = false) fun y : β => p a = true ∧ y = f a) ∧ k ((as.filter p).map f)) :
    EvK W (tLc (iList K tl) g tt te vs) Γ k := ev_lc hK (h.imp fun as ⟨hl, hs, q⟩ => ⟨hl, fun i bs => bs = ((as.take i).filter p).map f, by simp, fun W' s i a bs ha e => by
  have ht : as.take (i + 1) = as.take i ++ [a] := by
    rw [List.take_succ, ha]; rfl
  obtain ⟨js, h1, h2⟩ := hs W' s a (List.mem_of_getElem? ha)
  refine ⟨js, h1, fun σ H v Q E d c => h2 σ H v Q E d fun σ' Γ' G m q2 => c σ' Γ' G m ?_⟩
  intro σ2 H2 Q2 E2 c2
  refine q2 σ2 H2 Q2 E2 fun H3 b e3 ⟨hy, hn⟩ => c2 H3 b e3 ⟨fun hb => (hy hb).imp fun y ⟨hp, hyf⟩ => ?_, fun hb => ?_⟩
  · have e' : bs = ((as.take i).filter p).map f := e
    show bs ++ [y] = ((as.take (i + 1)).filter p).map f
    rw [ht, List.filter_append, List.map_append, ← e', List.filter_cons_of_pos hp, hyf]; rfl
  · have e' : bs = ((as.take i).filter p).map f := e
    show bs = ((as.take (i + 1)).filter p).map f
    rw [ht, List.filter_append, List.map_append, ← e', List.filter_cons_of_neg (by rw [hn hb]; exact Bool.false_ne_true)]; simp, fun bs e => by rw [e, List.take_length]; exact q⟩)
end
/-- what a field of an error may hold -/
inductive Fv where
  | i (n : Int) | s (x : Str) | p (a b : Int) | l (xs : List Str) | no | t1 (x : Str)
def Fv.den (W : Wc) (H : Hp) (v : V) : Fv → Prop
  | .i n => Rep.dn W H v n
  | .s x => Rep.dn W H v x
  | .p a b => Rep.dn W H v (a, b)
  | .l xs => Rep.dn W H v xs
  | .no => v = .non
  | .t1 x => ∃ p, v = .ref p ∧ Tq W H p [.str x]
theorem Fv.mono {W : Wc} {H H' : Hp} {v : V} (e : Kp W H H') : ∀ {f : Fv}, f.den W H v → f.den W H' v
  | .i _, h => h
  | .s _, h => h
  | .p a b, h => Rep.mono (a := (a, b)) e h
  | .l xs, h => Rep.mono (a := xs) e h
  | .no, h => h
  | .t1 _, ⟨q, h1, h2⟩ => ⟨q, h1, h2.mono e⟩
theorem Fv.grow {W : Wc} {H : Hp} {v : V} (D : Addr) (n : H D = none) : ∀ {f : Fv}, f.den W H v → f.den (W.plus D) H v
  | .i _, h => h
  | .s _, h => h
  | .p a b, h => Rep.grow (a := (a, b)) D n h
  | .l xs, h => Rep.grow (a := xs) D n h
  | .no, h => h
  | .t1 _, ⟨q, h1, h2⟩ => ⟨q, h1, h2.grow D n⟩
theorem Fv.shrink {W : Wc} {H : Hp} {v : V} (D : Addr) : ∀ {f : Fv}, f.den (W.plus D) H v → f.den W H v
  | .i _, h => h
  | .s _, h => h
  | .p a b, h => Rep.shrink (a := (a, b)) D h
  | .l xs, h => Rep.shrink (a := xs) D h
  | .no, h => h
  | .t1 _, ⟨q, h1, h2⟩ => ⟨q, h1, h2.shrink D⟩
/-- an error that leaves: its class by name, its fields -/
structure Xn where
  c : Cn
  fs : List (Str × Fv)
inductive DF (W : Wc) (H : Hp) : List (Str × V) → List (Str × Fv) → Prop
  | nil : DF W H [] []
  | cons {x : Str} {v : V} {t : Fv} {vs : List (Str × V)} {ts : List (Str × Fv)} : t.den W H v → DF W H vs ts → DF W H ((x, v) :: vs) ((x, t) :: ts)
theorem DF.imp {W W' : Wc} {H H' : Hp} (h : ∀ (v : V) (f : Fv), f.den W H v → f.den W' H' v) : ∀ {vs : List (Str × V)} {ts : List (Str × Fv)}, DF W H vs ts → DF W' H' vs ts
  | _, _, .nil => .nil
  | _, _, .cons x y => .cons (h _ _ x) (y.imp h)
theorem DF.at {W : Wc} {H : Hp} {f : Str} {t : Fv} : ∀ {vs : List (Str × V)} {ts : List (Str × Fv)}, DF W H vs ts → ts.lookup f = some t → ∃ v, vs.lookup f = some v ∧ t.den W H v
  | _, _, .nil, h => by cases h
  | _, _, .cons (x := x) (v := v) d r, h => by
    rw [List.lookup_cons] at h ⊢
    cases q : (f == x) with
    | true =>
      rw [q] at h
      cases h
      exact ⟨v, rfl, d⟩
    | false =>
      rw [q] at h
      exact DF.at r h
def xden (W : Wc) (H : Hp) (d : Option Addr) (fs : List (Str × Fv)) : Prop := (fs = [] ∧ d = none) ∨ ∃ dd vs, d = some dd ∧ ¬ W.mu dd ∧ H dd = some (.xd vs) ∧ DF W H vs fs
/-- an error in hand -/
structure Er where
  a : Addr
  d : Option Addr
  n : Xn
instance : Rep Er where
  dn := fun W H v e => v = .ref e.a ∧ xden W H e.d e.n.fs
  mono := fun k h => ⟨h.1, h.2.imp (fun h => h) fun ⟨dd, vs, h1, h2, h3, h4⟩ => ⟨dd, vs, h1, h2, k _ _ h2 h3, h4.imp fun _ _ z => Fv.mono k z⟩⟩
  grow := fun D n h => ⟨h.1, h.2.imp (fun h => h) fun ⟨dd, vs, h1, h2, h3, h4⟩ => ⟨dd, vs, h1, mu_grow n h2 h3, h3, h4.imp fun _ _ z => Fv.grow D n z⟩⟩
  shrink := fun D h => ⟨h.1, h.2.imp (fun h => h) fun ⟨dd, vs, h1, h2, h3, h4⟩ => ⟨dd, vs, h1, fun z => h2 (.inl z), h3, h4.imp fun _ _ z => Fv.shrink D z⟩⟩
def XOk (W : Wd) (H : Hp) (E : XK) (x : Xn → Prop) : Prop := ∀ n d H', Ext W H H' → xden W H' d n.fs → x n → E (.ref (W.B.cl n.c)) d H'
/-- P rt x ts: from the arguments ts to what is wished of the answer and of an error -/
abbrev PT := (Ty → Prop) → (Xn → Prop) → List Ty → Prop
def spG (B : Bs) (P : PT) : Sp := fun vs H Q E => ∃ (W : Wd) (ts : List Ty) (rt : Ty → Prop) (x : Xn → Prop), W.B = B ∧ W.ok H ∧ DT W H vs ts ∧ P rt x ts ∧ (∀ v H' (t : Ty), Ext W H H' → t.den W H' v → rt t → Q v H') ∧ XOk W H E x
def Wd.wth (W : Wd) (E : XK) (x : Xn → Prop) : Wd where
  toWc := W.toWc
  ok := W.ok
  live := W.live
  st := W.st
  wish := fun H => XOk W H E x
  wst := fun H H' k o w n d H2 e => w n d H2 ⟨fun a u m z => e.keep a u m (k a u m z), e.ok⟩
  hasbox := W.hasbox
  boxset := W.boxset
  boxmu := W.boxmu
  oke := W.oke
theorem Ext.wth {W : Wd} {E : XK} {x : Xn → Prop} {H H' : Hp} (e : Ext (W.wth E x) H H') : Ext W H H' := ⟨e.keep, e.ok⟩
theorem start_ok {W : Wd} {H : Hp} {vs : List V} {ts : List Ty} {N : List Str} (h : W.ok H) (w : W.wish H) (d : DT W H vs ts) : GOk W H (L2.start N vs) (ts.map some ++ List.replicate (N.length - ts.length) none) := by
  refine ⟨h, w, fun i t e => ?_, by unfold L2.start; rw [List.length_append, List.length_append, List.length_map, List.length_map, List.length_replicate, List.length_replicate, d.length]⟩
  have aux : ∀ {vs : List V} {ts : List Ty} {i : Nat} {m : Nat}, DT W H vs ts → (ts.map some ++ List.replicate m none)[i]? = some (some t) → ∃ v, vs[i]? = some v ∧ t.den W H v := by
    intro vs ts i m d
    induction d generalizing i with
    | nil =>
      intro e
      rw [List.map_nil, List.nil_append] at e
      have := List.mem_of_getElem? e
      rw [List.mem_replicate] at this
      cases this.2
    | cons x _ ih =>
      intro e
      cases i with
      | zero =>
        have : some _ = some (some t) := e
        cases this
        exact ⟨_, rfl, x⟩
      | succ i =>
        obtain ⟨v, h1, h2⟩ := ih (i := i) (by simpa using e)
        exact ⟨v, by simpa using h1, h2⟩
  obtain ⟨v, h1, h2⟩ := aux d e
  refine ⟨v, ?_, h2⟩
  unfold L2.start
  have hl : i < vs.length := (List.getElem?_eq_some_iff.mp h1).1
  rw [List.getElem?_append_left (by rw [List.length_map]; exact hl), List.getElem?_map, h1]
  rfl
/-- the body of a def keeps its promise -/
theorem body_ok {B : Bs} {P : PT} {t : TS} {N : List Str} {vs : List V} {H : Hp} {Q : VK} {E : XK}
    (hb : ∀ (W : Wd) ts rt x, W.B = B → W.ok H → (∀ H', W.ok H' → W.wish H' → XOk W H' E x) → P rt x ts → Sx W t (ts.map some ++ List.replicate (N.length - ts.length) none) { nx := fun _ => rt (T ()), rt := rt })
    (h : spG B P vs H Q E) : t { nx := fun _ H' => Q .non H', rt := Q } (L2.start N vs) H := by
  obtain ⟨W, ts, rt, x, hB, ho, d, hp, hq, hx⟩ := h
  refine hb (W.wth E x) ts rt x hB ho (fun H' _ w n d2 H2 e z q => w n d2 H2 e.wth z q) hp _ _ H (start_ok ho hx d) ⟨fun σ' H' Γ' e G q => hq .non H' (T ()) e.wth rfl q, fun v H' t e z q => hq v H' t e.wth z q, fun _ _ _ _ _ q => q.elim, fun _ _ _ _ _ q => q.elim⟩
theorem len_ok {B : Bs} {P : PT} {n : Nat} (hn : ∀ rt x ts, P rt x ts → ts.length = n) : ∀ vs H Q E, spG B P vs H Q E → vs.length = n := fun vs H Q E ⟨W, ts, rt, x, _, _, d, hp, _⟩ => d.length.trans (hn rt x ts hp)
end G
set_option Elab.async false
set_option linter.all false
set_option maxRecDepth 100000
set_option maxHeartbeats 2000000
namespace G
open PySem PySem.Spec PyProof.Rows L2 StX
section
variable {X : Cx} {CX : CXT} {k n : Nat} {f g C : Addr} {sp : Sp} {E : XK} {x : Str} {e : Expr} {es : List Expr} {t : TA} {p pos : Pos}
def tCallR (sp : Sp) (E : XK) (t : TA) : TE := fun σ H Q => t σ H fun vs H1 => sp vs H1 Q E
/-- f(e, ..) by a promise of values -/
theorem pe_callR (F : FnR X.prog X.w X.K X.mg X.base CX k f sp) (hr : Room k X.A) (hg : Gl X x) (hm : X.mg x = some (.ref f)) (hk : PySem.W.keepIn X.K (.ref f) = true) (hx : Passes CX X E)
    (ha : PA X (e :: es) t) (hdb : (x == ("__debug__" : Str)) = false := by decide) (he : starEach (e :: es) X.env = (false, eval e X.env) :: starEach es X.env := by rfl) (hpl : (backTo pos (starEach es X.env)).any (·.1) = false := by rfl) :
    PE X (.Call (.Name x p) (e :: es) [] pos) (tCallR sp E t) := by
  refine ⟨fun pins s σ H Q I h => ?_⟩
  refine wpAny_Call_Name_kw (ld_glob I hg hm ?_ hdb)
  refine PySem.W.callWith_K (h₀ := X.base) I.ok.mod.kin hk (thn (ha.run pos pins s σ H _ I h) fun us s1 ⟨vs, H1, I1, r, q⟩ => ⟨I1.kIn, ?_⟩) he hpl
  exact wpAny_call (run_fnR F hr hx I1 r q)
theorem ix_listK (K : PySem.W.Frag) (h : X.K = K := by rfl) : IxR X (rIxL K) := by subst h; exact ix_list
theorem ix_tupK (K : PySem.W.Frag) (h : X.K = K := by rfl) : IxR X (rIxT K) := by subst h; exact ix_tup
theorem op_eqDK (K : PySem.W.Frag) (hu : X.A.units + 64 < cLine) (h : X.K = K := by rfl) : OpR X (compareOp .Eq) (rEqD K) := by subst h; exact op_eqD hu
theorem op_neDK (K : PySem.W.Frag) (hu : X.A.units + 64 < cLine) (h : X.K = K := by rfl) : OpR X (compareOp .NotEq) (rNeD K) := by subst h; exact op_neD hu
theorem op_inSeqK (K : PySem.W.Frag) (h : X.K = K := by rfl) : OpR X (compareOp .In) (rIn K false) := by subst h; exact op_in_seq
theorem call_lenK (K : PySem.W.Frag) (h : X.K = K := by rfl) : CallR X (.builtin "len") (fun xs H Q => ∃ p ys, xs = [.ref p] ∧ (SqL K H p ys ∨ SqT K H p ys) ∧ Q (.int ys.length) H) := by subst h; exact call_len_seq
theorem call_isiKK (K : PySem.W.Frag) (h : X.K = K := by rfl) : CallR X (.builtin "isinstance") (rIsi K) := by subst h; exact call_isi
theorem sl_listK (K : PySem.W.Frag) (h : X.K = K := by rfl) : SlR X (rSlL K) := by subst h; exact sl_list
theorem pe_fldK (K : PySem.W.Frag) {o : Expr} {fl : Str} {ta : TE} (he : PE X o ta) (hb : attributeBase o fl X.env (eval o X.env) = eval o X.env) (h : X.K = K := by rfl) : PE X (.Attribute o fl pos) (tFld K ta fl) := by subst h; exact pe_fld he hb
theorem pi_listK (K : PySem.W.Frag) {tg l : Expr} {tl : TE} (he : PE X l tl) (h : X.K = K := by rfl) : PI X tg l (iList K tl) := by subst h; exact pi_list he
theorem pi_tupK (K : PySem.W.Frag) {tg l : Expr} {tl : TE} (he : PE X l tl) (h : X.K = K := by rfl) : PI X tg l (iTup K tl) := by subst h; exact pi_tup he
theorem pg_tupK (K : PySem.W.Frag) {n : Nat} {u : TGs} {k : Nat} (hc : X.calm = true) (hs : PGs X es u) (hn : (assignEach es X.env).length = n := by rfl) (hst : (assignEach es X.env).findIdx? (·.1) = none := by rfl) (h : X.K = K := by rfl) : PG X (.Tuple es k pos) (gTup K n u) := by subst h; exact pg_tup hc hs hn hst
theorem pt_truthK (K : PySem.W.Frag) {a : Expr} {ta : TE} (ha : PE X a ta) (he : ∀ whole, isTrue a X.env whole = (do let v ← whole; standAt a.pos; holding [v] (truthy v))) (h : X.K = K := by rfl) :
    L2.PT X a (fun σ H Q => ta σ H fun x H' => ∃ k, TruV K x H' k ∧ Q k H') := by subst h; exact pt_truth ha he
theorem inst_of {pins : List (Addr × Obj)} {σ : L2.St} {H : Hp} {s : Shared} {a dx : Addr} {fs : List (Str × V)} (I : Inv X pins σ H s) (ea : H a = some (.ins C dx fs)) : ∃ od, PySem.W.InstAt s.heap a (PySem.W.instObj C dx) C (some od) := by
  obtain ⟨mA, O, _⟩ := ins_get I.hok ea
  obtain ⟨od, J, _⟩ := O.look
  exact ⟨od, J⟩
/-- x in o, o of a class with its own __contains__ -/
def rInOwn (C : Addr) (sp : Sp) (E : XK) : R2 := fun x y H Q => ∃ a dx fs, y = .ref a ∧ H a = some (.ins C dx fs) ∧ sp [y, x] H (fun v H' => ∃ b, v = .bl b ∧ Q (.bl b) H') E
def rNotInOwn (C : Addr) (sp : Sp) (E : XK) : R2 := fun x y H Q => ∃ a dx fs, y = .ref a ∧ H a = some (.ins C dx fs) ∧ sp [y, x] H (fun v H' => ∃ b, v = .bl b ∧ Q (.bl (!b)) H') E
theorem op_inOwn (m : Meth X.K C "__contains__" g) (F : FnR X.prog X.w X.K X.mg X.base CX n g sp) (hr : Room n X.A) (hx : Passes CX X E) : OpR X (compareOp .In) (rInOwn C sp E) := by
  intro pins s σ H x y v u Q I rx ry h
  obtain ⟨a, dx, fs, rfl, ea, q⟩ := h
  cases (show u = Value.ref a from ry)
  obtain ⟨od, J⟩ := inst_of I ea
  obtain ⟨m', hF⟩ := I.fr
  refine PySem.W.in_K hF I.ok.mod.kin J m.at_ m.fn ?_
  refine wpAny_mono (wpAny_call (run_fnR (us := [.ref a, v]) (vs := [.ref a, x]) F hr hx I (.cons rfl (.cons rx .nil)) q)) (fun w s' z => ?_) fun _ _ x => x
  obtain ⟨z', H', I', rz, b, eb, qz⟩ := z
  subst eb
  cases rz
  exact wpAny_truthy_bool ⟨.bl b, H', I', rfl, qz⟩
theorem op_notInOwn (m : Meth X.K C "__contains__" g) (F : FnR X.prog X.w X.K X.mg X.base CX n g sp) (hr : Room n X.A) (hx : Passes CX X E) : OpR X (compareOp .NotIn) (rNotInOwn C sp E) := by
  intro pins s σ H x y v u Q I rx ry h
  obtain ⟨a, dx, fs, rfl, ea, q⟩ := h
  cases (show u = Value.ref a from ry)
  obtain ⟨od, J⟩ := inst_of I ea
  obtain ⟨m', hF⟩ := I.fr
  refine PySem.W.notIn_K hF I.ok.mod.kin J m.at_ m.fn ?_
  refine wpAny_mono (wpAny_call (run_fnR (us := [.ref a, v]) (vs := [.ref a, x]) F hr hx I (.cons rfl (.cons rx .nil)) q)) (fun w s' z => ?_) fun _ _ x => x
  obtain ⟨z', H', I', rz, b, eb, qz⟩ := z
  subst eb
  cases rz
  exact wpAny_truthy_bool ⟨.bl (!b), H', I', rfl, qz⟩
end
section
variable {W : Wd} {Γ : Gam} {ta : TA} {te tb to : TE}
theorem ev_callR {α : Type} {rα : Rep α} {B : Bs} {P : PT} {E : XK} {k : α → Prop} (hB : W.B = B) (h : EvA W ta Γ fun ts => P (fun t => ∃ a : α, t = T a ∧ k a) (fun _ => False) ts) : EvK W (tCallR (spG B P) E ta) Γ k := fun σ H Q G c =>
  h σ H _ G fun vs H1 ts e1 d z => ⟨W, ts, _, _, hB, e1.ok, d, z, fun v H2 t e2 dt ⟨a, ea, q⟩ => by
    subst ea
    exact c v H2 a (e1.trans e2) dt q, fun n d2 H2 _ _ q => q.elim⟩
/-- data that is an instance of the class named c -/
class Ins (β : Type) [Rep β] (c : outParam Cn) (fl : outParam (List Str)) : Prop where
  at_ : ∀ {W : Wc} {H : Hp} {v : V} {b : β}, den W H v b → ∃ a dx fs, v = .ref a ∧ ¬ W.mu a ∧ H a = some (.ins (W.B.cl c) dx fs) ∧ fs.map (·.1) = fl
/-- the class of such data is at C -/
def OwnG (β : Type) [Rep β] (B : Bs) (C : Addr) (G : Prop) : Prop := ∃ c fl, Ins β c fl ∧ B.cl c = C ∧ G
theorem own_in {β : Type} [Rep β] {c : Cn} {fl : List Str} [i : Ins β c fl] {B : Bs} {C : Addr} {G : Prop} (hC : B.cl c = C) (h : G) : OwnG β B C G := ⟨c, fl, i, hC, h⟩
theorem ev_inOwn {α β : Type} {rα : Rep α} {rβ : Rep β} {C : Addr} {B : Bs} {P : PT} {E : XK} {k : Bool → Prop} (hB : W.B = B)
    (h : EvK W te Γ fun a : α => EvK W tb Γ fun s : β => OwnG β B C (P (fun t => ∃ b : Bool, t = T b ∧ k b) (fun _ => False) [T s, T a])) : EvK W (tOp (rInOwn C (spG B P) E) te tb) Γ k := by
  subst hB
  refine ev_two (h.imp fun a ha => ha.imp fun s ⟨c, fl, iβ, hC, hp⟩ x y H Q o dx dy q => ?_)
  subst hC
  obtain ⟨p, dp, fs, hv, _, hH, _⟩ := iβ.at_ dy
  exact ⟨p, dp, fs, hv, hH, W, _, _, _, rfl, o, .cons (t := T s) dy (.cons (t := T a) dx .nil), hp, fun v H2 t e2 dt ⟨b, eb, kb⟩ => by
    subst eb
    exact ⟨b, dt, q _ H2 b e2 rfl kb⟩, fun n d2 H2 _ _ z => z.elim⟩
/-- what == of plain data asks: that it is data -/
def EqG {α : Type} [Rep α] (a b : α) (k : Bool → Prop) : Prop := ∃ (d : Dat α) (_ : DecidableEq α), Dat.dep α ≤ 64 ∧ (Dat.good a ∧ Dat.good b) ∧ k (decide (a = b))
theorem eqg_in {α : Type} [Rep α] [Dat α] [DecidableEq α] {a b : α} {k : Bool → Prop} (h1 : Dat.dep α ≤ 64) (h2 : Dat.good a) (h3 : Dat.good b) (h : k (decide (a = b))) : EqG a b k := ⟨inferInstance, inferInstance, h1, ⟨h2, h3⟩, h⟩
def NeG {α : Type} [Rep α] (a b : α) (k : Bool → Prop) : Prop := EqG a b fun x => k (!x)
theorem neg_in {α : Type} [Rep α] [Dat α] [DecidableEq α] {a b : α} {k : Bool → Prop} (h1 : Dat.dep α ≤ 64) (h2 : Dat.good a) (h3 : Dat.good b) (h : k (!decide (a = b))) : NeG a b k := eqg_in h1 h2 h3 h
theorem ev_eqG {α : Type} {rα : Rep α} {K : PySem.W.Frag} {k : Bool → Prop} (hK : W.B.K = K) (h : EvK W te Γ fun a : α => EvK W tb Γ fun b : α => EqG a b k) : EvK W (tOp (rEqD K) te tb) Γ k := by
  subst hK
  exact ev_two (h.imp fun a ha => ha.imp fun b ⟨d, q, h1, h2, h3⟩ x y H Q o dx dy c => ⟨_, _, Dat.dp dx, Dat.dp dy, shaped_of h2.1 h1, shaped_of h2.2 h1, c _ H _ (Ext.refl o) rfl (by rw [eqv_dec]; exact h3)⟩)
theorem ev_neG {α : Type} {rα : Rep α} {K : PySem.W.Frag} {k : Bool → Prop} (hK : W.B.K = K) (h : EvK W te Γ fun a : α => EvK W tb Γ fun b : α => NeG a b k) : EvK W (tOp (rNeD K) te tb) Γ k := by
  subst hK
  exact ev_two (h.imp fun a ha => ha.imp fun b ⟨d, q, h1, h2, h3⟩ x y H Q o dx dy c => ⟨_, _, Dat.dp dx, Dat.dp dy, shaped_of h2.1 h1, shaped_of h2.2 h1, c _ H _ (Ext.refl o) rfl (by rw [eqv_dec]; exact h3)⟩)
theorem ev_pow {n m : Int} {k : Int → Prop} (hc : CPow n m) (h : k (n ^ m.toNat)) : EvK W (tOp (rI CPow fun i j => .int (i ^ j.toNat)) (tC (.int n)) (tC (.int m))) Γ k :=
  ev_opC (ev_int (ev_int ⟨hc, h⟩))
/-- isinstance of plain data -/
class PyTy (α : Type) [Rep α] (ty : String) : Prop where
  at_ : ∀ {W : Wc} {H : Hp} {v : V} {a : α}, den W H v a → TyX W.B.K H v (.type ty)
instance : PyTy Int "int" := ⟨fun h => by cases h; exact .base (.int _)⟩
instance : PyTy Bool "bool" := ⟨fun h => by cases h; exact .base (.bl _)⟩
instance : PyTy Str "str" := ⟨fun h => by cases h; exact .base (.str _)⟩
theorem ev_isi {α : Type} {rα : Rep α} {K : PySem.W.Frag} {ty n : String} {b : Bool} {k : Bool → Prop} (hK : W.B.K = K) (i : PyTy α ty) (hb : PySem.W.kitOne K (.type ty) (.type n) = some b) (h : EvK W te Γ fun _ : α => k b) :
    EvK W (tCB (rIsi K) (tCons te (tCons (tC (.ty n)) tNil))) Γ k := by
  subst hK
  exact fun σ H Q E c => h σ H _ E fun v H1 a e1 d z => ⟨v, .ty n, _, _, b, rfl, .ty n, i.at_ d, hb, c _ H1 b e1 rfl z⟩
structure Stc where
  lo : Int
  hi : Int
  deriving DecidableEq
def stcF (lo hi : Int) : List (Str × V) := [("low", .int lo), ("high", .int hi)]
instance : Rep Stc :=
  ⟨fun W H v s => ∃ a dx, v = .ref a ∧ ¬ W.mu a ∧ H a = some (.ins (W.B.cl .Stretch) dx (stcF s.lo s.hi)),
   fun e ⟨a, dx, hv, m, h⟩ => ⟨a, dx, hv, m, e _ _ m h⟩,
   fun D n ⟨a, dx, hv, m, h⟩ => ⟨a, dx, hv, mu_grow n m h, h⟩,
   fun D ⟨a, dx, hv, m, h⟩ => ⟨a, dx, hv, fun z => m (.inl z), h⟩⟩
instance : Ins Stc .Stretch ["low", "high"] := ⟨fun ⟨a, dx, hv, m, h⟩ => ⟨a, dx, _, hv, m, h, rfl⟩⟩
theorem stc_low (lo hi : Int) : (stcF lo hi).lookup ("low" : Str) = some (V.int lo) := by simp [stcF, List.lookup]
theorem stc_high (lo hi : Int) : (stcF lo hi).lookup ("high" : Str) = some (V.int hi) := by
  have h : (("high" : Str) == ("low" : Str)) = false := by decide +kernel
  simp [stcF, List.lookup, h]
/-- what the text says of the class -/
structure StcT (B : Bs) : Prop where
  cl : Cls B.K (B.cl .Stretch)
  nlow : NoAttr B.K (B.cl .Stretch) "low"
  nhigh : NoAttr B.K (B.cl .Stretch) "high"
theorem stc_of {W : Wd} {B : Bs} (h : W.B = B) (s : StcT B) : StcT W.B := h ▸ s
theorem ev_low {K : PySem.W.Frag} {k : Int → Prop} (hK : W.B.K = K) (hS : StcT W.B) (h : EvK W te Γ fun s : Stc => k s.lo) : EvK W (tFld K te "low") Γ k := by
  subst hK
  refine fun σ H Q E c => h σ H _ E fun v H1 s e1 ⟨a, dx, hv, m, hH⟩ z => ?_
  exact ⟨a, _, dx, _, _, hv, hH, hS.cl, hS.nlow, stc_low _ _, c _ H1 _ e1 rfl z⟩
theorem ev_high {K : PySem.W.Frag} {k : Int → Prop} (hK : W.B.K = K) (hS : StcT W.B) (h : EvK W te Γ fun s : Stc => k s.hi) : EvK W (tFld K te "high") Γ k := by
  subst hK
  refine fun σ H Q E c => h σ H _ E fun v H1 s e1 ⟨a, dx, hv, m, hH⟩ z => ?_
  exact ⟨a, _, dx, _, _, hv, hH, hS.cl, hS.nhigh, stc_high _ _, c _ H1 _ e1 rfl z⟩
/-- __init__: the fields are set; or the error is made -/
def spSI (B : Bs) : Sp := fun vs H Q E => ∃ (p dx : Addr) (lo hi : Int), vs = [.ref p, .int lo, .int hi] ∧ H p = some (.ins (B.cl .Stretch) dx []) ∧
  lo ≤ hi ∧ Q .non (upd (upd H p (.ins (B.cl .Stretch) dx [("low", .int lo)])) p (.ins (B.cl .Stretch) dx (stcF lo hi)))
/-- Stretch(lo, hi), in order -/
theorem ev_stretch {B : Bs} {C : Addr} {E : XK} {ta tb : TE} {k : Stc → Prop} (hB : W.B = B) (hC : B.cl .Stretch = C) (h : EvK W ta Γ fun lo : Int => EvK W tb Γ fun hi : Int => lo ≤ hi ∧ k ⟨lo, hi⟩) : EvK W (tMakeR C (spSI B) E (tCons ta (tCons tb tNil))) Γ k := by
  subst hB
  subst hC
  refine fun σ H Q G c => h σ H _ G fun v H1 lo e1 d1 h1 => h1 σ H1 _ (G.ext e1) fun u H2 hi e2 d2 ⟨hle, z⟩ => ?_
  intro x dx nx ndx nex
  refine ⟨x, dx, lo, hi, by cases d1; cases d2; rfl, upd_same, hle, rfl, ?_⟩
  have o := e2.ok
  have m1 := fresh_mu o ndx
  have m2 := fresh_mu o nx
  have okx : W.ok (upd (upd (upd (upd H2 dx (.own x)) x (.ins (W.B.cl .Stretch) dx [])) x (.ins (W.B.cl .Stretch) dx [("low", .int lo)])) x (.ins (W.B.cl .Stretch) dx (stcF lo hi))) :=
    W.st _ _ _ (W.st _ _ _ (W.st _ _ _ (W.st _ _ _ o m1) m2) m2) m2
  refine c (.ref x) _ ⟨lo, hi⟩ ((e1.trans e2).trans ⟨fun a u _ q => ?_, okx⟩) ⟨x, dx, rfl, m2, upd_same⟩ z
  have n1 : a ≠ x := ne_of_none q nx
  have n2 : a ≠ dx := ne_of_none q ndx
  rw [upd_ne n1, upd_ne n1, upd_ne n1, upd_ne n2]
  exact q
end
theorem raw_seq {t u : TS} {D : Ends} {σ : L2.St} {H : Hp} (h : t { D with nx := u D } σ H) : tSeq t u D σ H := h
theorem raw_asg {te : TE} {g : TG} {D : Ends} {σ : L2.St} {H : Hp} (h : te σ H fun x H1 => g x σ H1 D.nx) : tAsg te g D σ H := h
theorem yes_then {σ : L2.St} {H : Hp} {A B : Hp → Prop} (h : A H) : tYes σ H fun b H3 => if b = true then A H3 else B H3 := by
  show if true = true then A H else B H
  rw [if_pos rfl]
  exact h
theorem itT {c : Bool} {A B : Prop} (hc : c = true) (h : A) : if c = true then A else B := by
  rw [if_pos hc]
  exact h
theorem itF {c : Bool} {A B : Prop} (hc : c = false) (h : B) : if c = true then A else B := by
  rw [hc, if_neg Bool.false_ne_true]
  exact h
structure Ow where
  p : Addr
instance : Rep Ow := ⟨fun _ _ v a => v = .ref a.p, fun _ h => h, fun _ _ h => h, fun _ h => h⟩
theorem GOk.plus {W : Wd} {F H1 : Hp} {σ : L2.St} {Γ : Gam} {p : Addr} {vs : List V} (G : GOk W F σ Γ) (n : F p = none) (e : Ext W F H1) (hp : H1 p = some (.lst vs)) : GOk (W.plus p vs F n G.ok G.wish) H1 σ Γ :=
  ⟨⟨e.ok, hp⟩, fun b o m z => e.keep b o m z, fun i t h => by
    obtain ⟨v, h1, h2⟩ := G.at_ i t h
    exact ⟨v, h1, Ty.mono (fun b o m z => e.keep b o (fun z => m (.inl z)) z) (t.r.grow p n h2)⟩, G.len⟩
def boxW (B : Bs) (b c : Addr) (hbc : b ≠ c) (cells : List V) (ns : List Int) (hc : cells = ns.map V.int) : Wd where
  B := B
  mu := fun a => a = b ∨ a = c
  box := fun a => a = b
  ok := fun H => (∃ i p s : Int, H b = some (.lst [.ref c, .int i, .int p, .int s]) ∧ 0 ≤ i ∧ 0 ≤ p) ∧ H c = some (.lst cells)
  live := fun H a ⟨⟨i, p, s, h, _⟩, h2⟩ m => by
    rcases m with m | m
    · subst m; exact ⟨_, h⟩
    · subst m; exact ⟨_, h2⟩
  st := fun H p o ⟨⟨i, q, s, h, z⟩, h2⟩ m => ⟨⟨i, q, s, by rw [upd_ne (fun e => m (.inl e.symm))]; exact h, z⟩, by rw [upd_ne (fun e => m (.inr e.symm))]; exact h2⟩
  wish := fun _ => True
  wst := fun _ _ _ _ _ => trivial
  hasbox := fun H a ⟨⟨i, q, s, h, z⟩, h2⟩ e => by
    subst e
    exact ⟨c, ns, i, q, s, hbc, h, by rw [h2, hc], z⟩
  boxset := fun H a c1 i1 p1 s1 i' p' s' ⟨⟨i, q, s, h, z⟩, h2⟩ e h1 z1 z2 => by
    subst e
    rw [h] at h1
    obtain rfl : c = c1 := by injection h1 with h1; injection h1 with h1; injection h1 with h1 _; injection h1
    exact ⟨⟨i', p', s', upd_same, z1, z2⟩, by rw [upd_ne (Ne.symm hbc)]; exact h2⟩
  boxmu := fun a e => .inl e
  oke := fun H H' ⟨⟨i, p, s, h, z⟩, h2⟩ k => ⟨⟨i, p, s, k _ _ h, z⟩, k _ _ h2⟩
/-- the rest of the law, behind its box -/
theorem law_run {B : Bs} {t : TS} {σ : L2.St} {H : Hp} {Q : VK} {b c : Addr} {ns : List Int} {s : Int} {j : Nat} (hbc : b ≠ c) (hb : H b = some (.lst [.ref c, .int 0, .int 0, .int s])) (hc : H c = some (.lst (ns.map V.int)))
    (hj : σ[j]? = some (some (.ref b))) (hQ : ∀ H', Q (.bl true) H')
    (hs : ∀ W : Wd, W.B = B → Sx W t ((List.replicate σ.length none).set j (some (T Bx.mk))) { nx := fun _ => False, rt := fun t => t = T true }) : t { nx := fun _ H' => Q .non H', rt := Q } σ H := by
  refine hs (boxW B b c hbc _ ns rfl) rfl _ σ H ⟨⟨⟨0, 0, s, hb, Int.le_refl _, Int.le_refl _⟩, hc⟩, trivial, fun i t h => ?_, by rw [List.length_set, List.length_replicate]⟩ ⟨fun _ _ _ _ _ q => q.elim, fun v H' t _ d q => ?_, fun _ _ _ _ _ q => q.elim, fun _ _ _ _ _ q => q.elim⟩
  · by_cases e : j = i
    · subst e
      have hl : j < (List.replicate σ.length (none : Option Ty)).length := by rw [List.length_replicate]; exact (List.getElem?_eq_some_iff.mp hj).1
      rw [List.getElem?_set_self hl] at h
      cases h
      exact ⟨_, hj, b, rfl, rfl⟩
    · rw [List.getElem?_set_ne e] at h
      have := List.mem_of_getElem? h
      rw [List.mem_replicate] at this
      cases this.2
  · subst q
    obtain rfl : v = .bl true := d
    exact hQ H'
theorem room {j k : Nat} {A : Around} (h : Room k A) (hjk : j ≤ k := by decide) : Room j A := h.mono hjk
theorem huD {k : Nat} {A : Around} (h : Room k A) : A.units + 64 < cLine := h.units
def DefM (K : PySem.W.Frag) (name qual : Str) (st : Stmt) (ps : List Str) (f : Addr) : Prop := ∃ fd, Fun K name qual st f fd ∧ Binds K fd ps []
structure DefAt (K : PySem.W.Frag) (mg : Str → Option Value) (name : Str) (st : Stmt) (ps : List Str) (f : Addr) : Prop where
  d : DefM K name name st ps f
  g : mg name = some (.ref f)
  kp : PySem.W.keepIn K (.ref f) = true
section
variable {P : Program} {w : World} {K : PySem.W.Frag} {mg : Str → Option Value} {base : Heap}
theorem fnR_of {st : Stmt} {N ps : List Str} {k : Nat} {sp : Sp} {f : Addr} {name qual : Str} (D : DefM K name qual st ps f) (S : FnScope N ps (defScope st)) (len : ∀ vs H Q E, sp vs H Q E → vs.length = ps.length)
    (hbody : ∀ (cdv : Value) (A : Around) (outer : List Env) (s : Shared) (H : Hp) (vs : List V) (Q : VK) (E : XK), Room k (A.deeper (envOfC qual (defScope st) s.heap.objs.size f cdv)) → sp vs H Q E →
      ∃ t, PSs (cxOf CX0 P w K mg base N qual (defScope st) f cdv A outer s H E).nox (defBody st) t ∧ t { nx := fun _ H' => Q .non H', rt := Q } (L2.start N vs) H) : FnR P w K mg base CX0 (k + 1) f sp := by
  obtain ⟨fd, F, b⟩ := D
  exact ((F.ok S len hbody).raw b .nil).imp fun vs H Q E h => by rw [List.append_nil]; exact h
end
end G
set_option Elab.async false
set_option linter.all false
set_option maxRecDepth 100000
set_option maxHeartbeats 2000000
namespace G
open PySem PySem.Spec PyProof.Rows L2 StX
section
variable {X : Cx} {e : Expr} {es : List Expr} {ta : TA} {p1 p2 pos : Pos}
/-- what the text says of GaugeError, at CG -/
structure GeT (K : PySem.W.Frag) (mg : Str → Option Value) (CG : Addr) : Prop where
  g : mg "GaugeError" = some (.ref CG)
  ga : PySem.W.specialIn K (.ref CG) "__getattribute__" = some (some (.builtin "type.__getattribute__"))
  rd : PySem.W.readsIn K CG (.type "type") = true
  at_ : PySem.W.findCls K (.ref CG) (.type "type") "__init__" = some (.val (.builtin "ValueError.__init__"))
theorem pe_geinit {pl : Sem Bool} {CG : Addr} (T : GeT X.K X.mg CG) (ha : PA X (e :: es) ta) (hg : Gl X "GaugeError" := by rfl)
    (hc : eval (.Call (.Attribute (.Name "GaugeError" p1) "__init__" p2) (e :: es) [] pos) X.env = (do
      let ov ← eval (.Name "GaugeError" p1) X.env
      standAt p2.atName
      let (f, first) ← holding [ov] (getMethod ov "__init__" pl)
      callWith pos f first (backTo pos (starEach (e :: es) X.env)) (backToKw pos (keywordEach [] X.env))) := by rfl)
    (he : starEach (e :: es) X.env = (false, eval e X.env) :: starEach es X.env := by rfl) (hpl : (backTo pos (starEach es X.env)).any (·.1) = false := by rfl) :
    PE X (.Call (.Attribute (.Name "GaugeError" p1) "__init__" p2) (e :: es) [] pos) (tVeI X.K ta) := by
  refine ⟨fun pins s σ H Q I h => ?_⟩
  refine PySem.W.methodCall_KW (ld_glob I hg T.g ?_) hc
  refine PySem.W.method_cls I.kIn T.ga (PySem.W.cls_value I.kIn T.rd T.at_ (by decide +kernel) ?_)
  show wpAny _ _ (callWith pos (Value.builtin "ValueError.__init__") [] (backTo pos (starEach (e :: es) X.env)) []) _ _ _
  refine PyProof.Rows.callWith_method1 (thn (ha.run pos pins _ σ H _ (I.tok _) h) fun us s1 ⟨vs, H1, I1, r1, a, C, ws, ev, hl, T, ea, q⟩ => ?_) he hpl
  subst ev
  cases r1 with
  | @cons _ u0 _ ur ra rw' =>
    obtain rfl : u0 = Value.ref a := ra
    have hlen : ur.length ≤ sizeLine := by
      rw [← Paired.length rw', sizeLine_eq]
      omega
    exact oinit_ok T I1 ea hlen fun s' J => ⟨.non, H1, J, rfl, q⟩
end
/-- numbers that can be written into a text -/
def Small (i : Int) : Prop := i.natAbs.log2 < 1920
theorem small_of {i : Int} (h : i.natAbs < 2 ^ 1000) : Small i := by
  unfold Small
  rcases Nat.eq_zero_or_pos i.natAbs with h0 | h0
  · rw [h0]; decide
  · have := (Nat.log2_lt (by omega)).mpr h
    omega
/-- __init__ of Stretch, all of it -/
def spSIX (B : Bs) : Sp := fun vs H Q E => ∃ (p dx : Addr) (lo hi : Int), vs = [.ref p, .int lo, .int hi] ∧ H p = some (.ins (B.cl .Stretch) dx []) ∧
  (lo ≤ hi → Q .non (upd (upd H p (.ins (B.cl .Stretch) dx [("low", .int lo)])) p (.ins (B.cl .Stretch) dx (stcF lo hi)))) ∧
  (hi < lo → Small lo ∧ Small hi ∧ ∀ d, H d = none → E (.ref (B.cl .BadStretch)) (some d) (upd H d (.xd [("high", .int hi), ("low", .int lo)])))
theorem XOk.ext {W : Wd} {H H' : Hp} {E : XK} {x : Xn → Prop} (w : XOk W H E x) (e : Ext W H H') : XOk W H' E x := fun n d H2 e2 => w n d H2 (e.trans e2)
section
variable {X : Cx} {CX : CXT} {k n : Nat} {f g C : Addr} {sp : Sp} {E : XK} {o e : Expr} {es : List Expr} {to te ta : TE} {t : TA} {p p' pos apos : Pos} {m : Str}
theorem pe_geinitK (K : PySem.W.Frag) {p1 p2 : Pos} {pl : Sem Bool} {CG : Addr} (T : GeT X.K X.mg CG) (ha : PA X (e :: es) t) (hK : X.K = K := by rfl) (hg : Gl X "GaugeError" := by rfl)
    (hc : eval (.Call (.Attribute (.Name "GaugeError" p1) "__init__" p2) (e :: es) [] pos) X.env = (do
      let ov ← eval (.Name "GaugeError" p1) X.env
      standAt p2.atName
      let (f, first) ← holding [ov] (getMethod ov "__init__" pl)
      callWith pos f first (backTo pos (starEach (e :: es) X.env)) (backToKw pos (keywordEach [] X.env))) := by rfl)
    (he : starEach (e :: es) X.env = (false, eval e X.env) :: starEach es X.env := by rfl) (hpl : (backTo pos (starEach es X.env)).any (·.1) = false := by rfl) :
    PE X (.Call (.Attribute (.Name "GaugeError" p1) "__init__" p2) (e :: es) [] pos) (tVeI K t) := by subst hK; exact pe_geinit T ha hg hc he hpl
theorem ps_ostK (K : PySem.W.Frag) (ho : PE X o to) (he : PE X e te) (hs : swapsWith e (some (.Attribute o m p')) pos.line X.env = pure false := by rfl) (hK : X.K = K := by rfl) : PS X (.Assign [.Attribute o m p'] e pos) (tOst K m to te) := by subst hK; exact ps_ost ho he hs
/-- C(e, ..), an error with its own __init__ -/
theorem pmk_oexR {x : Str} {C fI : Addr} (T : OexC X.K C) (iC : PySem.W.findIn X.K (.ref C) "__init__" = some (some (.ref fI))) (tI : PySem.W.typeIn X.K (.ref fI) = some (.type "function"))
    (F : FnR X.prog X.w X.K X.mg X.base CX k fI sp) (hr : Room (k + 1) X.A) (hx : Passes CX X (fun _ _ _ => False)) (hg : Gl X x) (hm : X.mg x = some (.ref C)) (ha : PA X (e :: es) t)
    (hdb : (x == ("__debug__" : Str)) = false := by decide) (he : starEach (e :: es) X.env = (false, eval e X.env) :: starEach es X.env := by rfl) (hpl : (backTo pos (starEach es X.env)).any (·.1) = false := by rfl) :
    PMk X (.Call (.Name x p) (e :: es) [] pos) (tMkO C sp [] t) := by
  intro pins s σ H Q I h
  obtain ⟨nm, q, N, bs, bm, sn, sub, ab, col, dd, k0, k1, k2, k3, k5, hC, hbm⟩ := T.cls
  refine wpAny_Call_Name_kw (ld_glob I hg hm ?_ hdb)
  refine PySem.W.callWith_K (h₀ := X.base) I.ok.mod.kin T.kC (thn (ha.run pos pins s σ H _ I h) fun us s1 ⟨vs, H1, I1, r1, hz, q1⟩ => ⟨I1.kIn, ?_⟩) he hpl
  show wpAny _ _ (call (.ref C) us) _ _ _
  obtain ⟨hp, g, dr, tk, os⟩ := s1
  have hsz : hp.objs.size ≤ hp.objs.size + 1 := Nat.le_succ _
  have hn : H1 (hp.objs.size + 1) = none := I1.hok.fresh hsz
  have hq := q1 (hp.objs.size + 1) hn
  have kk : ∀ b o, hp.get? b = some o → ((hp.push (PySem.W.kdv_tup us)).push (PySem.HandSPX.excO C hp.objs.size)).get? b = some o := fun b o e => Heap.get?_push_of_some _ (Heap.get?_push_of_some _ e)
  have hget : ((hp.push (PySem.W.kdv_tup us)).push (PySem.HandSPX.excO C hp.objs.size)).get? (hp.objs.size + 1) = some (PySem.HandSPX.excO C hp.objs.size) := by heap_get
  have I2 : Inv X pins σ (upd H1 (hp.objs.size + 1) (exo (hp.objs.size + 1) C none)) ⟨(hp.push (PySem.W.kdv_tup us)).push (PySem.HandSPX.excO C hp.objs.size), g, dr, tk, os⟩ :=
    I1.laid (t' := tk) (a := hp.objs.size + 1) (o := exo (hp.objs.size + 1) C none) (h' := (hp.push (PySem.W.kdv_tup us)).push (PySem.HandSPX.excO C hp.objs.size)) kk hsz (exo_ok hget)
  have r2 : Vals (V.ref (hp.objs.size + 1) :: (vs ++ [])) (Value.ref (hp.objs.size + 1) :: us) := .cons rfl (by rw [List.append_nil]; exact r1)
  have hus : us.length ≤ sizeLine := by
    rw [← Paired.length r1, sizeLine_eq]
    omega
  refine wpAny_call (PySem.HandSPX.call_own PySem.F.excBase_ValueError (fun Y => PySem.HandSPX.refsVE_contains Y bm hbm) (I1.kIn _ _ hC) (PySem.W.looks_findIn I1.kIn iC) (fun self => PySem.W.bind_fn I1.kIn self tI) hus
    (codeAny_mono (F _ X.stack _ _ (Value.ref (hp.objs.size + 1) :: us) _ _ (fun _ _ _ => False) (hr.make C us []) (I2.env0.make C us []) r2 hq) fun r s' hq' => ?_))
  cases r with
  | error er => exact hx pins σ _ _ er s' I2 hq'
  | ok fl =>
    cases fl with
    | ret u =>
      obtain ⟨v, H2, os2, bare2, un2, hok2, rv, ev, d, fs, ea, ed, hd1, q2⟩ := hq'
      subst ev
      obtain ⟨h2, g2, d2, t2, os'⟩ := s'
      exact ⟨rv, mk_end (raises_own T.exC T.tyC) I1 hsz kk un2 hok2 os2 bare2 ea ed hd1 q2⟩
    | next => exact False.elim hq'
    | brk => exact False.elim hq'
    | cont => exact False.elim hq'
end
end G
set_option Elab.async false
set_option linter.all false
set_option maxRecDepth 100000
set_option maxHeartbeats 2000000
set_option exponentiation.threshold 2000
namespace G
open PySem PySem.Spec PyProof.Rows L2 StX
section
variable {X : Cx} {CX : CXT} {k n : Nat} {f g C : Addr} {sp : Sp} {E : L2.St → XK} {x m : Str} {o e e2 : Expr} {es : List Expr} {te to tb : TE} {t : TA} {p pos apos : Pos}
theorem passSL : ∀ σ, PassesAt (L2.CX X.prog X.w) X σ ((fun _ => E0) σ) := fun σ pins H s e s' I h => passL pins σ H s e s' I h
theorem passS0 : ∀ σ, PassesAt CX0 X σ ((fun _ => E0) σ) := fun σ pins H s e s' I h => pass0 pins σ H s e s' I h
theorem run_fnRS {pins : List (Addr × Obj)} {σ : L2.St} {H : Hp} {s : Shared} {E : XK} {Q : VK} {us : List Value} {vs : List V} (F : FnR X.prog X.w X.K X.mg X.base CX k f sp) (hr : Room k X.A) (hx : PassesAt CX X σ E) (I : L2.Inv X pins σ H s) (r : Vals vs us) (q : sp vs H Q E) :
    wpAny (model X.prog X.w) X.A (call (.ref f) us) (EP X pins σ Q) X.xe s := by
  refine wpAny_call (codeAny_mono (F _ X.stack _ _ us _ _ E hr I.env0 r q) fun r s' h => ?_)
  cases r with
  | error e => exact hx pins H s e s' I h
  | ok fl =>
    cases fl with
    | ret u =>
      obtain ⟨v, H2, os2, bare2, un2, hok2, rv, qv⟩ := h
      exact ⟨v, H2, I.call' os2 un2 hok2 bare2 (fun b hb => (nomatch hb)), rv, qv⟩
    | next => exact False.elim h
    | brk => exact False.elim h
    | cont => exact False.elim h
def tCallZ (sp : Sp) (E : L2.St → XK) (t : TA) : TE := fun σ H Q => t σ H fun vs H1 => sp vs H1 Q (E σ)
/-- f(e, ..) -/
theorem pe_callZ (F : FnR X.prog X.w X.K X.mg X.base CX k f sp) (hr : Room k X.A) (hg : Gl X x) (hm : X.mg x = some (.ref f)) (hk : PySem.W.keepIn X.K (.ref f) = true) (hx : ∀ σ, PassesAt CX X σ (E σ))
    (ha : PA X (e :: es) t) (hdb : (x == ("__debug__" : Str)) = false := by decide) (he : starEach (e :: es) X.env = (false, eval e X.env) :: starEach es X.env := by rfl) (hpl : (backTo pos (starEach es X.env)).any (·.1) = false := by rfl) :
    PE X (.Call (.Name x p) (e :: es) [] pos) (tCallZ sp E t) := by
  refine ⟨fun pins s σ H Q I h => ?_⟩
  refine wpAny_Call_Name_kw (ld_glob I hg hm ?_ hdb)
  exact PySem.W.callWith_K (h₀ := X.base) I.ok.mod.kin hk (thn (ha.run pos pins s σ H _ I h) fun us s1 ⟨vs, H1, I1, r, q⟩ => ⟨I1.kIn, run_fnRS F hr (hx σ) I1 r q⟩) he hpl
def tMakeZ (C : Addr) (sp : Sp) (E : L2.St → XK) (t : TA) : TE := fun σ H Q => t σ H fun vs H1 => ∀ x dx, H1 x = none → H1 dx = none → dx ≠ x → sp (.ref x :: vs) (upd (upd H1 dx (.own x)) x (.ins C dx [])) (fun v H2 => v = .non ∧ Q (.ref x) H2) (E σ)
theorem run_makeZ {pins : List (Addr × Obj)} {σ : L2.St} {H : Hp} {s : Shared} {E : XK} {Q : VK} {us : List Value} {vs : List V} (M : Mk X.K C f) (F : FnR X.prog X.w X.K X.mg X.base CX k f sp) (hr : Room (k + 1) X.A) (hx : PassesAt CX X σ E) (I : L2.Inv X pins σ H s) (r : Vals vs us)
    (q : ∀ x dx, H x = none → H dx = none → dx ≠ x → sp (.ref x :: vs) (upd (upd H dx (.own x)) x (.ins C dx [])) (fun v H2 => v = .non ∧ Q (.ref x) H2) E) :
    wpAny (model X.prog X.w) X.A (call (.ref C) us) (EP X pins σ Q) X.xe s := by
  have I2 := I.made (C := C)
  have n1 : H s.heap.objs.size = none := I.hok.fresh (Nat.le_refl _)
  have n2 : H (s.heap.objs.size + 1) = none := I.hok.fresh (Nat.le_succ _)
  have hq := q _ _ n2 n1 (Nat.ne_of_lt (Nat.lt_succ_self _))
  refine wpAny_call (make_map I.kIn M.makes M.init (by simpa [PySem.W.isFn] using M.fn) (codeAny_mono (F _ X.stack _ _ (.ref (s.heap.objs.size + 1) :: us) _ _ E (hr.make C us []) (I2.env0.make C us []) (.cons (show L2.RelV (.ref _) (.ref _) from rfl) r) hq) fun r s' h => ?_))
  cases r with
  | error e => exact hx pins _ _ e s' I2 h
  | ok fl =>
    cases fl with
    | ret u =>
      obtain ⟨v, H3, os2, bare2, un2, hok2, rv, ev, q3⟩ := h
      subst ev
      exact ⟨rv, .ref _, H3, I2.call' os2 un2 hok2 bare2 (fun b hb => (nomatch hb)), rfl, q3⟩
    | next => exact False.elim h
    | brk => exact False.elim h
    | cont => exact False.elim h
/-- C(e, ..) -/
theorem pe_makeZ (M : Mk X.K C f) (F : FnR X.prog X.w X.K X.mg X.base CX k f sp) (hr : Room (k + 1) X.A) (hg : Gl X x) (hm : X.mg x = some (.ref C)) (hx : ∀ σ, PassesAt CX X σ (E σ))
    (ha : PA X (e :: es) t) (hdb : (x == ("__debug__" : Str)) = false := by decide) (he : starEach (e :: es) X.env = (false, eval e X.env) :: starEach es X.env := by rfl) (hpl : (backTo pos (starEach es X.env)).any (·.1) = false := by rfl) :
    PE X (.Call (.Name x p) (e :: es) [] pos) (tMakeZ C sp E t) := by
  refine ⟨fun pins s σ H Q I h => ?_⟩
  refine wpAny_Call_Name_kw (ld_glob I hg hm ?_ hdb)
  exact PySem.W.callWith_K (h₀ := X.base) I.ok.mod.kin M.kp (thn (ha.run pos pins s σ H _ I h) fun us s1 ⟨vs, H1, I1, r, q⟩ => ⟨I1.kIn, run_makeZ M F hr (hx σ) I1 r q⟩) he hpl
def tMethZ (C : Addr) (m : Str) (sp : Sp) (E : L2.St → XK) (ta : TE) (t : TA) : TE := fun σ H Q => ta σ H fun x H1 => ∃ a dx fs, x = .ref a ∧ H1 a = some (.ins C dx fs) ∧ fs.lookup m = none ∧ t σ H1 fun vs H2 => sp (x :: vs) H2 Q (E σ)
/-- o.m(e, ..) -/
theorem pe_methZ {pl : Sem Bool} (ho : PE X o to) (c : Cls X.K C) (hm : Meth X.K C m f) (F : FnR X.prog X.w X.K X.mg X.base CX k f sp) (hr : Room k X.A) (hx : ∀ σ, PassesAt CX X σ (E σ)) (ha : PA X (e :: es) t)
    (he : starEach (e :: es) X.env = (false, eval e X.env) :: starEach es X.env := by rfl) (hpl : (backTo pos (starEach es X.env)).any (·.1) = false := by rfl)
    (hc : eval (.Call (.Attribute o m apos) (e :: es) [] pos) X.env = (do
      let ov ← eval o X.env
      standAt apos.atName
      let (f, first) ← holding [ov] (getMethod ov m pl)
      callWith pos f first (backTo pos (starEach (e :: es) X.env)) (backToKw pos (keywordEach [] X.env))) := by rfl) :
    PE X (.Call (.Attribute o m apos) (e :: es) [] pos) (tMethZ C m sp E to t) := by
  refine ⟨fun pins s σ H Q I h => ?_⟩
  refine PySem.W.methodCall_KW (thn (ho.run pins s σ H _ I h) fun ov s1 ⟨x, H1, I1, rx, a, dx, fs, ex, ea, hl, q⟩ => ?_) hc
  subst ex
  cases (show ov = Value.ref a from rx)
  refine getmeth_ok I1 ea c hm hl ?_
  show wpAny _ _ (callWith pos (Value.ref f) [Value.ref a] (backTo pos (starEach (e :: es) X.env)) []) _ _ _
  exact PySem.W.callWith_K (h₀ := X.base) I1.ok.mod.kin hm.kp (thn (ha.run pos pins s1 σ H1 _ I1 q) fun us s2 ⟨vs, H2, I2, r, q2⟩ => ⟨I2.kIn, run_fnRS (vs := .ref a :: vs) F hr (hx σ) I2 (.cons (show L2.RelV (.ref a) (.ref a) from rfl) r) q2⟩) he hpl
/-- o.m() -/
theorem pe_methZ0 {pl : Sem Bool} (ho : PE X o to) (c : Cls X.K C) (hm : Meth X.K C m f) (F : FnR X.prog X.w X.K X.mg X.base CX k f sp) (hr : Room k X.A) (hx : ∀ σ, PassesAt CX X σ (E σ))
    (hc : eval (.Call (.Attribute o m apos) [] [] pos) X.env = (do
      let ov ← eval o X.env
      standAt apos.atName
      let (f, first) ← holding [ov] (getMethod ov m pl)
      callWith pos f first (backTo pos (starEach [] X.env)) (backToKw pos (keywordEach [] X.env))) := by rfl) :
    PE X (.Call (.Attribute o m apos) [] [] pos) (tMethZ C m sp E to tNil) := by
  refine ⟨fun pins s σ H Q I h => ?_⟩
  refine PySem.W.methodCall_KW (thn (ho.run pins s σ H _ I h) fun ov s1 ⟨x, H1, I1, rx, a, dx, fs, ex, ea, hl, q⟩ => ?_) hc
  subst ex
  cases (show ov = Value.ref a from rx)
  refine getmeth_ok I1 ea c hm hl ?_
  show wpAny _ _ (callWith pos (Value.ref f) [Value.ref a] (backTo pos (starEach [] X.env)) []) _ _ _
  exact PySem.W.callWith_K0 I1.kIn hm.kp (run_fnRS (vs := [.ref a]) F hr (hx σ) I1 (.cons (show L2.RelV (.ref a) (.ref a) from rfl) .nil) q)
/-- values that are not NotImplemented -/
def Pl (v : V) : Prop := (∃ c, v = .ref c) ∨ (∃ b, v = .bl b) ∨ ∃ i, v = .int i
def tBinI (C : Addr) (sp : Sp) (E : L2.St → XK) (ta tb : TE) : TE := fun σ H Q => ta σ H fun x H1 => tb σ H1 fun y H2 => ∃ a dx fs i, x = .ref a ∧ H2 a = some (.ins C dx fs) ∧ y = .int i ∧ sp [x, y] H2 (fun v H' => Pl v ∧ Q v H') (E σ)
def tBinO (C : Addr) (sp : Sp) (E : L2.St → XK) (ta tb : TE) : TE := fun σ H Q => ta σ H fun x H1 => tb σ H1 fun y H2 => ∃ a dx fs b dy gs, x = .ref a ∧ H2 a = some (.ins C dx fs) ∧ y = .ref b ∧ H2 b = some (.ins C dy gs) ∧ sp [x, y] H2 (fun v H' => Pl v ∧ Q v H') (E σ)
def tUnO (C : Addr) (sp : Sp) (E : L2.St → XK) (ta : TE) : TE := fun σ H Q => ta σ H fun x H1 => ∃ a dx fs, x = .ref a ∧ H1 a = some (.ins C dx fs) ∧ sp [x] H1 Q (E σ)
/-- the body of a def that may raise -/
theorem fnRX_of {P : Program} {w : World} {K : PySem.W.Frag} {mg : Str → Option Value} {base : Heap} {st : Stmt} {N ps : List Str} {k : Nat} {sp : Sp} {f : Addr} {name qual : Str} (D : DefM K name qual st ps f) (S : FnScope N ps (defScope st)) (len : ∀ vs H Q E, sp vs H Q E → vs.length = ps.length)
    (hbody : ∀ (cdv : Value) (A : Around) (outer : List Env) (s : Shared) (H : Hp) (vs : List V) (Q : VK) (E : XK), Room k (A.deeper (envOfC qual (defScope st) s.heap.objs.size f cdv)) → sp vs H Q E →
      ∃ t, PSs (cxOf (L2.CX P w) P w K mg base N qual (defScope st) f cdv A outer s H E) (defBody st) t ∧ t { nx := fun _ H' => Q .non H', rt := Q } (L2.start N vs) H) : FnR P w K mg base (L2.CX P w) (k + 1) f sp := by
  obtain ⟨fd, F, b⟩ := D
  exact ((F.okX S len hbody).raw b .nil).imp fun vs H Q E h => by rw [List.append_nil]; exact h
end
/-- what is raised is wished for -/
def HX (W : Wd) (Γ : Gam) (E : L2.St → XK) (x : Xn → Prop) : Prop := ∀ σ H, GOk W H σ Γ → XOk W H (E σ) x
theorem hx0 {W : Wd} {Γ : Gam} {E : L2.St → XK} : HX W Γ E fun _ => False := fun σ H _ n d H2 _ _ q => q.elim
theorem hx_of {W : Wd} {Γ : Gam} {E : XK} {x : Xn → Prop} (h : ∀ H', W.ok H' → W.wish H' → XOk W H' E x) : HX W Γ (fun _ => E) x := fun σ H G => h H G.ok G.wish
class Pln (α : Type) [Rep α] : Prop where
  at_ : ∀ {W : Wc} {H : Hp} {v : V} {a : α}, den W H v a → Pl v
/-- such data is never NotImplemented -/
def PlnG (α : Type) [Rep α] (G : Prop) : Prop := Pln α ∧ G
theorem plnG_in {α : Type} [Rep α] [i : Pln α] {G : Prop} (h : G) : PlnG α G := ⟨i, h⟩
instance : Pln Int := ⟨fun h => .inr (.inr ⟨_, h⟩)⟩
instance : Pln Bool := ⟨fun h => .inr (.inl ⟨_, h⟩)⟩
instance : Pln Stc := ⟨fun ⟨a, dx, hv, _⟩ => .inl ⟨a, hv⟩⟩
section
variable {W : Wd} {Γ : Gam} {ta : TA} {te tb to : TE} {B : Bs} {P : PT} {E : L2.St → XK} {x : Xn → Prop} {C : Addr}
theorem ev_callZ {α : Type} {rα : Rep α} {k : α → Prop} (hB : W.B = B) (hx : HX W Γ E x) (h : EvA W ta Γ fun ts => P (fun t => ∃ a : α, t = T a ∧ k a) x ts) : EvK W (tCallZ (spG B P) E ta) Γ k := fun σ H Q G c =>
  h σ H _ G fun vs H1 ts e1 d z => ⟨W, ts, _, x, hB, e1.ok, d, z, fun v H2 t e2 dt ⟨a, ea, q⟩ => by
    subst ea
    exact c v H2 a (e1.trans e2) dt q, hx σ H1 (G.ext e1)⟩
/-- the class of such data is at C, m is none of its fields -/
def OwnM (β : Type) [Rep β] (B : Bs) (C : Addr) (m : Str) (G : Prop) : Prop := ∃ c fl, Ins β c fl ∧ B.cl c = C ∧ m ∉ fl ∧ G
theorem ownM_in {β : Type} [Rep β] {c : Cn} {fl : List Str} [i : Ins β c fl] {B : Bs} {C : Addr} {m : Str} {G : Prop} (hC : B.cl c = C) (hm : m ∉ fl) (h : G) : OwnM β B C m G := ⟨c, fl, i, hC, hm, h⟩
theorem look_none {m : Str} : ∀ {fs : List (Str × V)}, m ∉ fs.map (·.1) → fs.lookup m = none
  | [], _ => rfl
  | (y, v) :: r, h => by
    have h1 : ¬ m = y := fun e => h (by rw [e]; exact List.mem_cons_self)
    have h2 : m ∉ r.map (·.1) := fun e => h (List.mem_cons_of_mem _ e)
    have h3 : (m == y) = false := by
      cases q : (m == y) with
      | false => rfl
      | true => exact absurd (eq_of_beq q) h1
    rw [List.lookup_cons, h3]
    exact look_none h2
theorem ev_methZ {α β : Type} {rα : Rep α} {rβ : Rep β} {m : Str} {k : α → Prop} (hB : W.B = B) (hx : HX W Γ E x)
    (h : EvK W to Γ fun s : β => OwnM β B C m (EvA W ta Γ fun ts => P (fun t => ∃ a : α, t = T a ∧ k a) x (T s :: ts))) : EvK W (tMethZ C m (spG B P) E to ta) Γ k := by
  subst hB
  refine fun σ H Q G c => h σ H _ G fun v H1 s e1 d ⟨cc, fl, iβ, hC, hm, z⟩ => ?_
  subst hC
  obtain ⟨p, dp, fs, hv, _, hH, hfl⟩ := iβ.at_ d
  refine ⟨p, dp, fs, hv, hH, look_none (by rw [hfl]; exact hm), ?_⟩
  refine z σ H1 _ (G.ext e1) fun vs H2 ts e2 d2 z2 => ?_
  exact ⟨W, _, _, x, rfl, e2.ok, .cons (t := T s) (Rep.mono e2.keep d) d2, z2, fun v H3 t e3 dt ⟨a, ea, q⟩ => by
    subst ea
    exact c v H3 a ((e1.trans e2).trans e3) dt q, hx σ H2 ((G.ext e1).ext e2)⟩
theorem ev_binI {α β : Type} {rα : Rep α} {rβ : Rep β} {k : α → Prop} (hB : W.B = B) (hx : HX W Γ E x)
    (h : EvK W to Γ fun s : β => EvK W te Γ fun i : Int => OwnG β B C (P (fun t => ∃ a : α, t = T a ∧ PlnG α (k a)) x [T s, T i])) : EvK W (tBinI C (spG B P) E to te) Γ k := by
  subst hB
  refine fun σ H Q G c => h σ H _ G fun v H1 s e1 d h1 => h1 σ H1 _ (G.ext e1) fun u H2 i e2 d2 ⟨cc, fl, iβ, hC, z⟩ => ?_
  subst hC
  have d' := Rep.mono (W := W.toWc) (a := s) e2.keep d
  obtain ⟨p, dp, fs, hv, _, hH, _⟩ := iβ.at_ d'
  exact ⟨p, dp, fs, i, hv, hH, d2, W, _, _, x, rfl, e2.ok, .cons (t := T s) d' (.cons (t := T i) d2 .nil), z, fun v H3 t e3 dt ⟨a, ea, pα, q⟩ => by
    subst ea
    exact ⟨pα.at_ dt, c v H3 a ((e1.trans e2).trans e3) dt q⟩, hx σ H2 ((G.ext e1).ext e2)⟩
theorem ev_binO {α β : Type} {rα : Rep α} {rβ : Rep β} {k : α → Prop} (hB : W.B = B) (hx : HX W Γ E x)
    (h : EvK W to Γ fun s : β => EvK W te Γ fun s2 : β => OwnG β B C (P (fun t => ∃ a : α, t = T a ∧ PlnG α (k a)) x [T s, T s2])) : EvK W (tBinO C (spG B P) E to te) Γ k := by
  subst hB
  refine fun σ H Q G c => h σ H _ G fun v H1 s e1 d h1 => h1 σ H1 _ (G.ext e1) fun u H2 s2 e2 d2 ⟨cc, fl, iβ, hC, z⟩ => ?_
  subst hC
  have d' := Rep.mono (W := W.toWc) (a := s) e2.keep d
  obtain ⟨p, dp, fs, hv, _, hH, _⟩ := iβ.at_ d'
  obtain ⟨p2, dp2, fs2, hv2, _, hH2, _⟩ := iβ.at_ d2
  exact ⟨p, dp, fs, p2, dp2, fs2, hv, hH, hv2, hH2, W, _, _, x, rfl, e2.ok, .cons (t := T s) d' (.cons (t := T s2) d2 .nil), z, fun v H3 t e3 dt ⟨a, ea, pα, q⟩ => by
    subst ea
    exact ⟨pα.at_ dt, c v H3 a ((e1.trans e2).trans e3) dt q⟩, hx σ H2 ((G.ext e1).ext e2)⟩
theorem ev_negO {α β : Type} {rα : Rep α} {rβ : Rep β} {k : α → Prop} (hB : W.B = B) (hx : HX W Γ E x)
    (h : EvK W to Γ fun s : β => OwnG β B C (P (fun t => ∃ a : α, t = T a ∧ k a) x [T s])) : EvK W (tUnO C (spG B P) E to) Γ k := by
  subst hB
  refine fun σ H Q G c => h σ H _ G fun v H1 s e1 d ⟨cc, fl, iβ, hC, z⟩ => ?_
  subst hC
  obtain ⟨p, dp, fs, hv, _, hH, _⟩ := iβ.at_ d
  exact ⟨p, dp, fs, hv, hH, W, _, _, x, rfl, e1.ok, .cons (t := T s) d .nil, z, fun v H3 t e3 dt ⟨a, ea, q⟩ => by
    subst ea
    exact c v H3 a (e1.trans e3) dt q, hx σ H1 (G.ext e1)⟩
/-- Stretch(lo, hi), in order or not -/
theorem ev_stretchZ {ta tb : TE} {k : Stc → Prop} (hB : W.B = B) (hC : B.cl .Stretch = C) (hx : HX W Γ E x)
    (h : EvK W ta Γ fun lo : Int => EvK W tb Γ fun hi : Int => (lo ≤ hi → k ⟨lo, hi⟩) ∧ (hi < lo → Small lo ∧ Small hi ∧ x ⟨.BadStretch, [("high", .i hi), ("low", .i lo)]⟩)) : EvK W (tMakeZ C (spSIX B) E (tCons ta (tCons tb tNil))) Γ k := by
  subst hB
  subst hC
  refine fun σ H Q G c => h σ H _ G fun v H1 lo e1 d1 h1 => h1 σ H1 _ (G.ext e1) fun u H2 hi e2 d2 ⟨hle, hlt⟩ => ?_
  intro xx dx nx ndx nex
  have o := e2.ok
  have m1 := fresh_mu o ndx
  have m2 := fresh_mu o nx
  have e3 : ∀ o', Ext W H2 (upd (upd H2 dx (.own xx)) xx o') := fun o' => ⟨fun a u _ q => by rw [upd_ne (ne_of_none q nx), upd_ne (ne_of_none q ndx)]; exact q, W.st _ _ _ (W.st _ _ _ o m1) m2⟩
  refine ⟨xx, dx, lo, hi, by cases d1; cases d2; rfl, upd_same, fun hl => ⟨rfl, ?_⟩, fun hl => ?_⟩
  · have okx : W.ok (upd (upd (upd (upd H2 dx (.own xx)) xx (.ins (W.B.cl .Stretch) dx [])) xx (.ins (W.B.cl .Stretch) dx [("low", .int lo)])) xx (.ins (W.B.cl .Stretch) dx (stcF lo hi))) :=
      W.st _ _ _ (W.st _ _ _ (W.st _ _ _ (W.st _ _ _ o m1) m2) m2) m2
    refine c (.ref xx) _ ⟨lo, hi⟩ ((e1.trans e2).trans ⟨fun a u _ q => ?_, okx⟩) ⟨xx, dx, rfl, m2, upd_same⟩ (hle hl)
    have n1 : a ≠ xx := ne_of_none q nx
    have n2 : a ≠ dx := ne_of_none q ndx
    rw [upd_ne n1, upd_ne n1, upd_ne n1, upd_ne n2]
    exact q
  · obtain ⟨s1, s2, xq⟩ := hlt hl
    refine ⟨s1, s2, fun d hd => ?_⟩
    have e4 := (e3 (.ins (W.B.cl .Stretch) dx []))
    have md := fresh_mu e4.ok hd
    exact hx σ H2 ((G.ext e1).ext e2) _ _ _ (e4.trans (Ext.new (o := .xd [("high", .int hi), ("low", .int lo)]) e4.ok hd)) (.inr ⟨d, _, rfl, md, upd_same, .cons (t := .i hi) rfl (.cons (t := .i lo) rfl .nil)⟩) xq
theorem ev_max2 {k : Int → Prop} (h : EvK W te Γ fun i : Int => EvK W tb Γ fun j : Int => k (max i j)) : EvK W (tCB (fun xs H Q => ∃ i j, xs = [.int i, .int j] ∧ Q (.int (if j > i then j else i)) H) (tCons te (tCons tb tNil))) Γ k := fun σ H Q G c =>
  h σ H _ G fun v H1 i e1 d h1 => h1 σ H1 _ (G.ext e1) fun u H2 j e2 d2 z => ⟨i, j, by rw [d, d2], c _ H2 (max i j) (e1.trans e2) (by show V.int _ = V.int _; congr 1; split <;> omega) z⟩
theorem ev_min2 {k : Int → Prop} (h : EvK W te Γ fun i : Int => EvK W tb Γ fun j : Int => k (min i j)) : EvK W (tCB (fun xs H Q => ∃ i j, xs = [.int i, .int j] ∧ Q (.int (if j < i then j else i)) H) (tCons te (tCons tb tNil))) Γ k := fun σ H Q G c =>
  h σ H _ G fun v H1 i e1 d h1 => h1 σ H1 _ (G.ext e1) fun u H2 j e2 d2 z => ⟨i, j, by rw [d, d2], c _ H2 (min i j) (e1.trans e2) (by show V.int _ = V.int _; congr 1; split <;> omega) z⟩
theorem ev_abs {k : Int → Prop} (h : EvK W te Γ fun i : Int => k (i.natAbs : Int)) : EvK W (tCB (fun xs H Q => ∃ i, xs = [.int i] ∧ Q (.int (if i < 0 then -i else i)) H) (tCons te tNil)) Γ k := fun σ H Q G c =>
  h σ H _ G fun v H1 i e1 d z => ⟨i, by rw [d], c _ H1 (i.natAbs : Int) e1 (by show V.int _ = V.int _; congr 1; split <;> omega) z⟩
theorem ev_sortedI {K : PySem.W.Frag} {k : List Int → Prop} (hK : W.B.K = K) (h : EvK W te Γ fun as : List Int => ∀ bs : List Int, bs.Perm as → bs.Pairwise (· ≤ ·) → k bs) : EvK W (tCB (rSortedI K) (tCons te tNil)) Γ k := by
  subst hK
  refine fun σ H Q G c => h σ H _ G fun v H1 as e1 ⟨p, vs, hv, hp, hd⟩ z => ?_
  obtain rfl := hd.ints
  refine ⟨p, as, by rw [hv], hp.sq, fun bs q hpm hpw hq => ?_⟩
  have e2 := Ext.new (o := .lst (bs.map V.int)) e1.ok hq
  exact c _ _ bs (e1.trans e2) ⟨q, _, rfl, Lq.new (fresh_mu e1.ok hq) upd_same, Dl.of_ints bs⟩ (z bs hpm hpw)
structure IsT (K : PySem.W.Frag) (C : Addr) : Prop where
  c : Cls K C
  f : PySem.W.findIn K (.ref C) "__class__" = some (some (.builtin "object.__class__"))
  s : PySem.W.specialIn K (.builtin "object.__class__") "__get__" = some (some (.builtin "getset_descriptor.__get__"))
  t : PySem.W.takesIn K (.builtin "object.__class__") = some true
  m : PySem.W.mroIn K C (.type "object") = some true
theorem kit_self {K : PySem.W.Frag} {C : Addr} : PySem.W.kitOne K (.ref C) (.ref C) = some true := by
  show (if (Value.ref C == Value.ref C) = true then some true else _) = some true
  rw [if_pos (beq_self_eq_true _)]
theorem ev_isiO {β : Type} {rβ : Rep β} {K : PySem.W.Frag} {C2 : Addr} {k : Bool → Prop} (hK : W.B.K = K) (h : EvK W te Γ fun _ : β => ∃ c fl b, Ins β c fl ∧ IsT K (W.B.cl c) ∧ PySem.W.kitOne K (.ref (W.B.cl c)) (.ref C2) = some b ∧ k b) :
    EvK W (tCB (rIsi K) (tCons te (tCons (tC (.ref C2)) tNil))) Γ k := by
  subst hK
  refine fun σ H Q E q => h σ H _ E fun v H1 a e1 d ⟨c, fl, b, i, T, hb, z⟩ => ?_
  obtain ⟨p, dp, fs, hv, _, hH, _⟩ := i.at_ d
  subst hv
  exact ⟨.ref p, .ref C2, _, _, b, rfl, .own C2, .base (.ins hH T.c T.f T.s T.t T.m), hb, q _ H1 b e1 rfl z⟩
end
/-- __init__ of an error: sh says which fields it gets from its arguments -/
def spEr (C : Addr) (sh : List V → List (Str × V) → Prop) : Sp := fun vs H Q E => ∃ a as fs, vs = .ref a :: as ∧ sh as fs ∧ H a = some (exo a C none) ∧
  ∀ d H2, H d = none → d ≠ a → H2 a = some (exo a C (some d)) → H2 d = some (exd d fs) → (∀ b, b ≠ a → b ≠ d → H2 b = H b) → Q .non H2
/-- sh over plain data -/
def ShT (sh : List V → List (Str × V) → Prop) (ts : List Ty) (fs : List (Str × Fv)) : Prop := ts.length ≤ 1000 ∧ ∀ (W : Wc) (H : Hp) vs, DT W H vs ts → ∃ gs, sh vs gs ∧ DF W H gs fs
section
variable {W : Wd} {Γ : Gam} {ta : TA} {te tb to : TE} {x : Xn → Prop} {C : Addr} {R : Po}
theorem sx_raise {c : Cn} {sh : List V → List (Str × V) → Prop} {Wx : WX} {B : Bs} (hB : W.B = B) (hC : B.cl c = C) (hx : HX W Γ (WE Wx) x) (h : EvA W ta Γ fun ts => ∃ fs, ShT sh ts fs ∧ x ⟨c, fs⟩) :
    Sx W (fun _ σ H => tMkO C (spEr C sh) [] ta σ H fun cls d H' => Wx cls d σ H') Γ R := by
  subst hB
  subst hC
  refine fun D σ H G O => h σ H _ G fun vs H1 ts e1 d ⟨fs, ⟨hl, hs⟩, xq⟩ => ⟨by rw [d.length]; exact hl, fun a ha => ?_⟩
  obtain ⟨gs, hsh, hdf⟩ := hs W.toWc H1 vs d
  refine ⟨a, vs ++ [], gs, rfl, by rw [List.append_nil]; exact hsh, upd_same, fun dd H2 hd hda h1 h2 h3 => ⟨rfl, dd, gs, h1, h2, ?_, ?_⟩⟩
  · rw [upd_ne hda] at hd
    exact hd
  · rw [upd_ne hda] at hd
    have e : upd (del H2 a) dd (.xd gs) = upd H1 dd (.xd gs) := by
      funext b
      by_cases hb : b = dd
      · subst hb
        rw [upd_same, upd_same]
      · rw [upd_ne hb, upd_ne hb]
        by_cases hba : b = a
        · subst hba
          rw [del_same, ha]
        · rw [del_ne hba, h3 b hba hb, upd_ne hba]
    rw [e]
    have e2 := Ext.new (o := .xd gs) e1.ok hd
    exact hx σ H1 (G.ext e1) ⟨c, fs⟩ (some dd) _ e2 (.inr ⟨dd, gs, rfl, fresh_mu e1.ok hd, upd_same, hdf.imp fun _ _ z => Fv.mono e2.keep z⟩) xq
/-- W with what is wished of errors in a try -/
def Wd.tr (W : Wd) (Γ : Gam) (Ew : L2.St → XK) (x : Xn → Prop) : Wd where
  toWc := W.toWc
  ok := W.ok
  live := W.live
  st := W.st
  wish := fun H => W.wish H ∧ ∀ (σ : L2.St) (n : Xn) (d : Option Addr) (H2 : Hp), Ext W H H2 → GOk W H2 σ Γ → xden W.toWc H2 d n.fs → x n → Ew σ (.ref (W.B.cl n.c)) d H2
  wst := fun H H' k o w => ⟨W.wst H H' k o w.1, fun σ n d H2 e => w.2 σ n d H2 ⟨fun a u m z => e.keep a u m (k a u m z), e.ok⟩⟩
  hasbox := W.hasbox
  boxset := W.boxset
  boxmu := W.boxmu
  oke := W.oke
theorem GOk.untr {W : Wd} {H : Hp} {σ : L2.St} {Γ Γ' : Gam} {Ew : L2.St → XK} {x : Xn → Prop} (G : GOk (W.tr Γ' Ew x) H σ Γ) : GOk W H σ Γ := ⟨G.ok, G.wish.1, G.at_, G.len⟩
theorem Ext.untr {W : Wd} {H H' : Hp} {Γ' : Gam} {Ew : L2.St → XK} {x : Xn → Prop} (e : Ext (W.tr Γ' Ew x) H H') : Ext W H H' := ⟨e.keep, e.ok⟩
def tTry (K : PySem.W.Frag) (c : Value) (i : Nat) (tb : WX → TS) (ts : Addr → Value → Option Addr → TS) (Wout : WX) : TS := fun D σ H => tb (wAs K c i ts Wout D) D σ H
theorem ps_tryZ {X : Cx} {y n : Str} {c : Value} {i : Nat} {body suite : List Stmt} {b₀ : Stmt} {np pos pos' : Pos} {tb : WX → TS} {ts : Addr → Value → Option Addr → TS} {Wout : WX} (K : PySem.W.Frag) (hs : X.stack = X.env :: X.outer) (hf : X.env.frame = some X.env.locals) (hN : X.N.Nodup) (hi : X.N[i]? = some n) (hln : X.env.kindOf n = some .local) (hc : Names X y c) (tk : Takes X Wout)
    (hb : ∀ (W : WX) (pn : List (Addr × Obj)) (xe : Value → Shared → Prop), Takes (X.tr pn xe) W → PassesOwn (model X.prog X.w) X.A X.env xe → PSs (X.tr pn xe) body (tb W))
    (hsu : ∀ (a : Addr) (oe : Obj) (cls : Value) (d : Option Addr) (pn : List (Addr × Obj)), Zc cls d oe → (∃ vs, oe.data = .fields vs) → PSs (X.suite a ((a, oe) :: pn)) (b₀ :: suite) (ts a cls d)) (hK : X.K = K := by rfl) :
    PS X (.Try body [.ExceptHandler (some (.Name y np)) (some n) (b₀ :: suite) pos'] [] [] pos) (tTry K c i tb ts Wout) := by subst hK; exact ps_try_as hs hf hN hi hln hc tk hb hsu
/-- e.f of an error in hand -/
theorem ev_xfI {a : Addr} {cls : Value} {d : Option Addr} {f : Str} {k : Int → Prop} (hC : cls = .ref C) (h : EvK W te Γ fun e : Er => (e.a = a ∧ e.d = d) ∧ ∃ z : Int, e.n.fs.lookup f = some (.i z) ∧ k z) : EvK W (tXf a cls d C f te) Γ k := by
  refine fun σ H Q E c => h σ H _ E fun v H1 e e1 ⟨hv, xd⟩ ⟨⟨ha, hd⟩, z, hf, q⟩ => ?_
  subst ha
  subst hd
  rcases xd with ⟨h0, _⟩ | ⟨dd, vs, h1, _, h3, h4⟩
  · rw [h0] at hf
    cases hf
  · obtain ⟨v, hv2, dv⟩ := h4.at hf
    exact ⟨hv, hC, dd, vs, v, h1, h3, hv2, c v H1 z e1 dv q⟩
theorem ev_xfP {a : Addr} {cls : Value} {d : Option Addr} {f : Str} {k : Int × Int → Prop} (hC : cls = .ref C) (h : EvK W te Γ fun e : Er => (e.a = a ∧ e.d = d) ∧ ∃ z w : Int, e.n.fs.lookup f = some (.p z w) ∧ k (z, w)) : EvK W (tXf a cls d C f te) Γ k := by
  refine fun σ H Q E c => h σ H _ E fun v H1 e e1 ⟨hv, xd⟩ ⟨⟨ha, hd⟩, z, w, hf, q⟩ => ?_
  subst ha
  subst hd
  rcases xd with ⟨h0, _⟩ | ⟨dd, vs, h1, _, h3, h4⟩
  · rw [h0] at hf
    cases hf
  · obtain ⟨v, hv2, dv⟩ := h4.at hf
    exact ⟨hv, hC, dd, vs, v, h1, h3, hv2, c v H1 (z, w) e1 dv q⟩
end
section
variable {W : Wd} {Γ : Gam} {te : TE} {t u : TS} {R : Po} {g : TG}
theorem sx_seqA (h : Sx W (tAsg te g) Γ { R with nx := fun Γ' => Sx W u Γ' R }) : Sx W (tSeq (tAsg te g) u) Γ R := sx_seq h
theorem sx_seqD (h : Sx W (tDrop te) Γ { R with nx := fun Γ' => Sx W u Γ' R }) : Sx W (tSeq (tDrop te) u) Γ R := sx_seq h
theorem Sx.imp {R' : Po} (h : Sx W t Γ R') (n : ∀ Γ', R'.nx Γ' → R.nx Γ') (r : ∀ v, R'.rt v → R.rt v) (b : ∀ Γ', R'.bk Γ' → R.bk Γ') (c : ∀ Γ', R'.ct Γ' → R.ct Γ') : Sx W t Γ R := fun D σ H G O =>
  h D σ H G ⟨fun a b' d e f q => O.nx a b' d e f (n _ q), fun a b' d e f q => O.rt a b' d e f (r _ q), fun a b' d e f q => O.bk a b' d e f (b _ q), fun a b' d e f q => O.ct a b' d e f (c _ q)⟩
theorem sx_seqI (I : Gam → Prop) (h : Sx W t Γ { R with nx := I }) (k : ∀ Γ', I Γ' → Sx W u Γ' R) : Sx W (tSeq t u) Γ R := sx_seq (h.imp k (fun _ q => q) (fun _ q => q) fun _ q => q)
end
/-- the parts of an f-string, no heap changed -/
inductive JP (σ : L2.St) (H : Hp) : List TE → Nat → Prop
  | nil : JP σ H [] 0
  | cons {t : TE} {y : Str} {ts : List TE} {n : Nat} : (∀ Q : VK, Q (.str y) H → t σ H Q) → y.length ≤ 3000 → JP σ H ts n → JP σ H (t :: ts) (n + 1)
theorem js_ok {σ : L2.St} {H : Hp} {Q : Str → Hp → Prop} (k : ∀ out, Q out H) : ∀ {ts : List TE} {n : Nat} {acc : Str}, JP σ H ts n → acc.length + 3000 * n ≤ 100000 → tJs ts acc σ H Q
  | _, _, acc, .nil, _ => k acc
  | _, _, acc, .cons (y := y) (n := n) h hl r, hb => by
    have h2 := Str.length_append acc y
    exact h _ ⟨y, rfl, by unfold sizeLine; omega, js_ok k r (by omega)⟩
theorem Small.of {i : Int} (h1 : -1000000000000000000000000000000 ≤ i) (h2 : i ≤ 1000000000000000000000000000000) : Small i := by
  refine small_of (Nat.lt_of_le_of_lt (m := 1000000000000000000000000000000) (by omega) (by decide))
theorem isO_self {β : Type} [Rep β] {c : Cn} {fl : List Str} [i : Ins β c fl] {K : PySem.W.Frag} {B : Bs} {C2 : Addr} {k : Bool → Prop} (hT : IsT K (B.cl c)) (hC : B.cl c = C2) (h : k true) : ∃ (c : Cn) (fl : List Str) (b : Bool), Ins β c fl ∧ IsT K (B.cl c) ∧ PySem.W.kitOne K (.ref (B.cl c)) (.ref C2) = some b ∧ k b :=
  ⟨c, fl, true, i, hT, by rw [hC]; exact kit_self, h⟩
theorem isT_of {K : PySem.W.Frag} {W : Wd} {B : Bs} {c : Cn} (h : W.B = B) (t : IsT K (B.cl c)) : IsT K (W.B.cl c) := h ▸ t
theorem cl_of {W : Wd} {B : Bs} {c : Cn} {C : Addr} (h : W.B = B) (t : B.cl c = C) : W.B.cl c = C := h ▸ t
theorem xcl_of {W : Wd} {B : Bs} {c : Cn} {C : Addr} (h : W.B = B) (t : B.cl c = C) : Value.ref (W.B.cl c) = Value.ref C := by rw [h, t]
theorem exm_at {K : PySem.W.Frag} {W : Wd} {B : Bs} {c : Cn} {S C : Addr} (h : W.B = B) (hc : B.cl c = C) (t : PySem.W.exmOne K (.ref C) (.ref S) = some true) : PySem.W.exmOne K (.ref (W.B.cl c)) (.ref S) = some true := by rw [h, hc]; exact t
theorem perm_sum {l1 l2 : List Int} (h : l1.Perm l2) : l1.foldr (· + ·) 0 = l2.foldr (· + ·) 0 := by
  induction h with
  | nil => rfl
  | cons x _ ih => simp only [List.foldr_cons]; rw [ih]
  | swap x y l => simp only [List.foldr_cons]; omega
  | trans _ _ ih1 ih2 => exact ih1.trans ih2
/-- the middle one of three -/
theorem med3 {a b c : Int} {bs : List Int} (h : a ≤ b) (hp : bs.Perm [a, c, b]) (hs : bs.Pairwise (· ≤ ·)) : atI bs 1 = some (max a (min b c)) := by
  have hl := hp.length_eq
  match bs, hl with
  | [x, y, z], _ =>
    simp only [List.pairwise_cons, List.mem_cons, List.not_mem_nil, or_false] at hs
    obtain ⟨h1, h2, _⟩ := hs
    have hxy : x ≤ y := h1 y (.inl rfl)
    have hyz : y ≤ z := h2 z rfl
    have ha : a ∈ [x, y, z] := hp.symm.subset (by simp)
    have hb : b ∈ [x, y, z] := hp.symm.subset (by simp)
    have hc : c ∈ [x, y, z] := hp.symm.subset (by simp)
    have hx : x ∈ [a, c, b] := hp.subset (by simp)
    have hy : y ∈ [a, c, b] := hp.subset (by simp)
    have hz : z ∈ [a, c, b] := hp.subset (by simp)
    have hsum : x + (y + (z + 0)) = a + (c + (b + 0)) := by
      exact perm_sum hp
    simp only [List.mem_cons, List.not_mem_nil, or_false] at ha hb hc hx hy hz
    show some y = some _
    congr 1
    omega
theorem fmt_int {σ : L2.St} {H : Hp} {te : TE} {i : Int} (h : ∀ Q : VK, Q (.int i) H → te σ H Q) (s : Small i) : ∀ Q : VK, Q (.str (toString i)) H → tFmt te σ H Q := fun Q q => h _ (.inr ⟨i, rfl, s, q⟩)
theorem txt_len {i : Int} (s : Small i) : (Str.ofString (toString i)).length ≤ 3000 := by
  have h := PySem.int_text_length_le (a := i) (k := 1920) (by decide) s
  rw [PySem.ofString_length]
  omega
section
variable {W : Wd} {Γ : Gam} {te tb to : TE}
/-- an f-string over plain data -/
def EvJ (W : Wd) (ts : List TE) (Γ : Gam) (acc : Str) (k : Str → Prop) : Prop := ∀ σ H (Q : Str → Hp → Prop), GOk W H σ Γ → (∀ out H', Ext W H H' → k out → Q out H') → tJs ts acc σ H Q
theorem ev_joined {ts : List TE} {k : Str → Prop} (h : EvJ W ts Γ Str.empty k) : EvK W (fun σ H Q => tJs ts Str.empty σ H fun out H1 => Q (.str out) H1) Γ k := fun σ H Q G c => h σ H _ G fun out H1 e q => c _ H1 out e rfl q
theorem ej_nil {acc : Str} {k : Str → Prop} (q : k acc) : EvJ W [] Γ acc k := fun σ H Q G c => c acc H (Ext.refl G.ok) q
theorem ej_cons {t : TE} {ts : List TE} {acc : Str} {k : Str → Prop} (h : EvK W t Γ fun y : Str => (acc ++ y).length ≤ 1000000 ∧ EvJ W ts Γ (acc ++ y) k) : EvJ W (t :: ts) Γ acc k := fun σ H Q G c =>
  h σ H _ G fun v H1 y e d ⟨hl, z⟩ => ⟨y, d, Nat.le_trans hl (by decide), z σ H1 _ (G.ext e) fun out H2 e2 q => c out H2 (e.trans e2) q⟩
theorem ev_fmtI {k : Str → Prop} (h : EvK W te Γ fun i : Int => Small i ∧ k (toString i)) : EvK W (tFmt te) Γ k := fun σ H Q G c =>
  h σ H _ G fun v H1 i e d ⟨s, q⟩ => .inr ⟨i, d, s, c _ H1 _ e rfl q⟩
end
theorem err_one {K : PySem.W.Frag} {C a : Addr} {f1 : Str} {x : V} {D : Ends} {σ : L2.St} {H : Hp} {first : TE} (T : OexC K C) (n1 : PySem.W.findIn K (.ref C) f1 = some none) (h0 : σ[0]? = some (some (.ref a))) (h1 : σ[1]? = some (some x))
    (hF : ∀ Q : VK, Q .non H → first σ H Q) (ha : H a = some (exo a C none)) (k : ∀ d H2, H d = none → d ≠ a → H2 a = some (exo a C (some d)) → H2 d = some (exd d [(f1, x)]) → (∀ b, b ≠ a → b ≠ d → H2 b = H b) → D.nx σ H2) :
    tSeq (tDrop first) (tOst K f1 (tVar 0) (tVar 1)) D σ H := by
  refine hF _ ⟨x, h1, .ref a, h0, a, C, rfl, T, n1, .inl ⟨ha, fun d hd hda => ?_⟩⟩
  exact k d _ hd hda upd_same (by rw [upd_ne hda]; exact upd_same) fun b hb hb2 => by rw [upd_ne hb, upd_ne hb2]
/-- GaugeError.__init__(self, text) -/
theorem first_ge {K : PySem.W.Frag} {C a : Addr} {σ : L2.St} {H : Hp} {J : TE} (T : OexC K C) (h0 : σ[0]? = some (some (.ref a))) (ha : H a = some (exo a C none)) (hJ : ∀ Q : VK, (∀ y, Q (.str y) H) → J σ H Q) : ∀ Q : VK, Q .non H → tVeI K (tCons (tVar 0) (tCons J tNil)) σ H Q := fun Q q =>
  ⟨_, h0, hJ _ fun y => ⟨a, C, _, rfl, by show 1 ≤ 1000; decide, T, ha, q⟩⟩
theorem var_is {σ : L2.St} {H : Hp} {i : Nat} {v : V} (h : σ[i]? = some (some v)) : ∀ Q : VK, Q v H → tVar i σ H Q := fun Q q => ⟨v, h, q⟩
theorem c_is {σ : L2.St} {H : Hp} {v : V} : ∀ Q : VK, Q v H → tC v σ H Q := fun Q q => q
/-- an error of the class at E is what «except S» names -/
theorem exm_of {K : PySem.W.Frag} {E S : Addr} (h1 : PySem.W.subIn K (.ref S) (.type "BaseException") = some true) (h2 : PySem.W.isClsIn K S = true) (h3 : PySem.W.typeIn K (.ref S) = some (.type "type")) (h4 : PySem.W.subIn K (.ref E) (.ref S) = some true) :
    PySem.W.exmOne K (.ref E) (.ref S) = some true := by
  have e1 : (PySem.W.subIn K (.ref S) (.type "BaseException") == some true) = true := by rw [h1] <;> rfl
  have e2 : ((PySem.W.clsIn K S).isSome && PySem.W.typeIn K (.ref S) == some (.type "type")) = true := by
    have h2' : (PySem.W.clsIn K S).isSome = true := h2
    rw [h2', h3] <;> rfl
  show (if (PySem.W.subIn K (.ref S) (.type "BaseException") == some true) = true then (if ((PySem.W.clsIn K S).isSome && PySem.W.typeIn K (.ref S) == some (.type "type")) = true then PySem.W.subIn K (.ref E) (.ref S) else none) else none) = some true
  rw [if_pos e1, if_pos e2]
  exact h4
end G
set_option maxRecDepth 100000
set_option maxHeartbeats 400000
set_option Elab.async false
set_option linter.all false
namespace G
open PySem PySem.Spec PyProof.Rows L2
theorem class_find {K : PySem.W.Frag} {D : Addr} {od : Option Obj} {name : Str} {a g : Value} (hd : PySem.W.hasDictIn K D = true) (ha : PySem.W.findIn K (.ref D) name = some (some a)) (hn : PySem.W.specialIn K a "__get__" = some (some g)) (ht : PySem.W.takesIn K a = some true) :
    PySem.W.findObj K D od name = some (.bind g a) := by
  unfold PySem.W.hasDictIn at hd
  cases hc : PySem.W.clsIn K D with
  | none => rw [hc] at hd; cases hd
  | some cd =>
    unfold PySem.W.findObj
    rw [hc, Option.bind_some, ha, Option.bind_some]
    show (PySem.W.specialIn K a "__get__").bind _ = _
    rw [hn, Option.bind_some]
    show (PySem.W.takesIn K a).bind _ = _
    rw [ht, Option.bind_some]
theorem chk1 : builtinKind "BaseException.__getattribute__" = some Manifest.AttrKind.slot := PySem.W.kin_classE._proof_2
theorem chk2 : splitId "BaseException.__getattribute__" = some ("BaseException", "__getattribute__") := PySem.W.kin_classE._proof_3
theorem chk3 (x : Addr) (v : Value) : argsOk "BaseException.__getattribute__" { pos := Value.ref x :: [v], kw := [] } := F.args_bexc_ga _ _
theorem chk_aux {M : Model} {A : Around} {E : Value → Shared → Prop} {s : Shared} {x : Addr} {v : Value} {Q : Unit → Shared → Prop} (hi : PySem.W.Looks M s.heap (isInstance (.ref x) (.type "BaseException")) true) (q : Q () s) :
    wpAny M A (checkBuiltinCall "BaseException.__getattribute__" { pos := [.ref x, v] }) Q E s := by
  have := @PySem.W.check_slot M A E s "BaseException.__getattribute__" "BaseException" "__getattribute__" (.ref x) [v] [] Q chk1 chk2 hi (chk3 x v) q
  exact this
theorem exc_class {prog : Program} {w : World} {A : Around} {E : Value → Shared → Prop} {s : Shared} {K : PySem.W.Frag} {x D : Addr} {ox : Obj} {od : Option Obj} {Q : Option Value → Shared → Prop}
    (T : ExcC K D) (X : K.In s.heap) (J : PySem.W.InstAt s.heap x ox D od) (q : Q (some (.ref D)) { heap := s.heap, gens := s.gens, drawn := s.drawn, toks := s.toks + 1, os := s.os }) :
    wpAny (model prog w) A (getAttr? (.ref x) "__class__") Q E s := by
  obtain ⟨h, g, d, t, os⟩ := s
  have hf := class_find (od := od) T.hd T.ha T.hn T.ht
  have e1 : (onTheHeap (Value.ref D) && (Value.builtin "BaseException.__getattribute__" == Value.builtin "object.__getattribute__")) = false := by
    rw [show (Value.builtin "BaseException.__getattribute__" == Value.builtin "object.__getattribute__") = false by decide +kernel, Bool.and_false]
  unfold getAttr?
  refine wpAny_bind (wpAny_mkText ?_)
  unfold getAttrBy?
  refine wpAny_bind (wpAny_attempt ?_)
  unfold getAttrBy
  refine wpAny_holding (wpAny_bind (PySem.W.Looks.at J.type (wpAny_bind (PySem.W.Looks.at (PySem.W.looks_findIn X T.hg) ?_))))
  show wpAny _ _ (if (onTheHeap (Value.ref D) && (Value.builtin "BaseException.__getattribute__" == Value.builtin "object.__getattribute__")) = true then getAttrEveryday _ _ _ else getAttrByItsOwn _ _ _ _ _ _) _ _ _
  rw [e1, if_neg Bool.false_ne_true]
  unfold getAttrByItsOwn
  refine wpAny_bind (PySem.W.Looks.at (t := hookBefore (.ref D)) (show PySem.W.Looks _ _ (typeLookup (.ref D) "__getattr__") none from PySem.W.looks_findIn X T.hk) ?_)
  refine wpAny_bind (wpAny_attempt (wpAny_holding ?_))
  show wpAny _ _ (boundAndCalled _ _ _) _ _ _
  unfold boundAndCalled
  refine wpAny_bind (wpAny_of_eq ((ExcAttrFacts.ga F.excAttr_ValueError).bind _) ?_)
  show wpAny _ _ (call (.builtin "BaseException.__getattribute__") [.ref x, .str "__class__" t]) _ _ _
  refine wpAny_call ?_
  have hi : PySem.W.Looks (model prog w) h (isInstance (.ref x) (.type "BaseException")) true := PySem.W.Looks.andThen J.type (PySem.W.looks_subIn X T.hs)
  refine codeAny_call_builtin (b := Builtin.«object.__getattribute__») (Slot.plain (ExcAttrFacts.ga F.excAttr_ValueError)) F.entry_bexc_ga ?_
  refine chk_aux hi ?_
  unfold Builtin.«object.__getattribute__»
  refine wpAny_bind (wpAny_of_eq (a := (Value.ref x, [Value.str "__class__" t])) rfl ?_)
  refine wpAny_bind (wpAny_of_eq (a := ("__class__" : Str)) rfl ?_)
  refine wpAny_bind (PySem.W.Looks.at J.type (wpAny_bind (PySem.W.Looks.at (PySem.W.looks_find X J hf) ?_)))
  show wpAny _ _ (do let v ← holding [Value.builtin "object.__class__"] (call (.builtin "getset_descriptor.__get__") [.builtin "object.__class__", .ref x, .ref D]); ret v) _ _ _
  refine wpAny_bind (wpAny_holding (wpAny_call (PySem.W.class_get X J T.hm ?_)))
  show wpAny _ _ (ret (Value.ref D)) _ _ _
  refine wpAny_of_eq (a := Fin.done (.ret (.ref D))) rfl ?_
  show wpAny _ _ (handedOut (.ref D)) _ _ _
  refine wpAny_of_eq (a := Value.ref D) rfl ?_
  refine wpAny_of_eq (a := some (Value.ref D)) rfl ?_
  exact q
theorem kitx_excF (s0 : Shared) {K : PySem.W.Frag} {x D : Addr} {ox : Obj} {od : Option Obj} (T : ExcC K D) : PySem.W.KitX K (.ref x) (.ref D) fun h => PySem.W.InstAt h x ox D od :=
  ⟨fun M h X J => J.type, fun M h X J => PySem.W.mc_isType (s := { s0 with heap := h }) X T.hd, (PySem.W.handS_kitx_exc (x := x) (ox := ox) T.hg T.hk T.hs T.hd T.ha T.hn T.ht T.hm).ne, fun X J q => exc_class T X J q⟩
/-- isinstance(e, c) of the error in hand, with or without a dict -/
def rIsF (K : PySem.W.Frag) (cls : Value) (d : Option Addr) (a : Addr) : List V → Hp → VK → Prop := fun xs H Q => ∃ D c cv b, cls = .ref D ∧ ExcC K D ∧ (d = none ∨ ∃ dd fs, d = some dd ∧ H dd = some (.xd fs)) ∧ xs = [.ref a, c] ∧ (∀ u, L2.RelV c u → u = cv) ∧ PySem.W.kitOne K (.ref D) cv = some b ∧ Q (.bl b) H
theorem call_isF {X : Cx} {a : Addr} {oe : Obj} {cls : Value} {d : Option Addr} {pn : List (Addr × Obj)} (K : PySem.W.Frag) (hz : Zc cls d oe) (hf : ∃ vs, oe.data = .fields vs) (hK : X.K = K := by rfl) :
    CallR (X.suite a ((a, oe) :: pn)) (.builtin "isinstance") (rIsF K cls d a) := by
  subst hK
  intro pins s σ H xs us Q I r h
  obtain ⟨D, c, cv, b, hcls, T, hd, rfl, hc, hk, q⟩ := h
  subst hcls
  cases r with
  | @cons _ u0 _ ur ra rr =>
  cases rr with
  | @cons _ u1 _ ur2 rb rn =>
  cases rn
  obtain rfl : u0 = Value.ref a := ra
  obtain rfl : u1 = cv := hc _ rb
  obtain ⟨hg, _⟩ := I.pin (a, oe) (List.mem_append_left _ List.mem_cons_self)
  obtain ⟨vs, hvs⟩ := hf
  have J : ∃ od, PySem.W.InstAt s.heap a oe D od := by
    rcases hd with hd | ⟨dd, fs, hd, hH⟩
    · refine ⟨none, hg, hz.1, by unfold PySem.W.notCls; rw [hvs], ?_⟩
      rw [hz.2, hd]
      trivial
    · obtain ⟨mA, hN, _⟩ := I.hok dd _ hH
      obtain ⟨o, es, ep, ho, _⟩ := hN
      refine ⟨some o, hg, hz.1, by unfold PySem.W.notCls; rw [hvs], ?_⟩
      rw [hz.2, hd]
      exact ho
  obtain ⟨od, J⟩ := J
  refine PySem.W.kia_one (kitx_excF s (ox := oe) (od := od) T) I.kIn J hk (by intro e; cases e) fun tk => ⟨.bl b, H, I.tok tk, rfl, q⟩
section
variable {W : Wd} {Γ : Gam} {te : TE}
theorem ev_isF {K : PySem.W.Frag} {B : Bs} {cls : Value} {d : Option Addr} {a : Addr} {v : V} {k : Bool → Prop} (hB : W.B = B) (hK : B.K = K)
    (h : EvK W te Γ fun e : Er => (e.a = a ∧ e.d = d) ∧ ∃ D cv b, cls = .ref D ∧ ExcC K D ∧ (∀ u, L2.RelV v u → u = cv) ∧ PySem.W.kitOne K (.ref D) cv = some b ∧ k b) : EvK W (tCB (rIsF K cls d a) (tCons te (tCons (tC v) tNil))) Γ k := by
  refine fun σ H Q E q => h σ H _ E fun u H1 e e1 ⟨hv, xd⟩ ⟨⟨ha, hd⟩, D, cv, b, hcls, T, hc, hk, z⟩ => ?_
  subst ha
  subst hd
  refine ⟨D, v, cv, b, hcls, T, ?_, by rw [hv], hc, hk, q _ H1 b e1 rfl z⟩
  rcases xd with ⟨_, h0⟩ | ⟨dd, vs, h1, _, h3, _⟩
  · exact .inl h0
  · exact .inr ⟨dd, vs, h1, h3⟩
theorem rel_ref {C : Addr} : ∀ u, L2.RelV (.ref C) u → u = Value.ref C := fun _ h => h
/-- isinstance of an own error and an own class -/
theorem kit_own {K : PySem.W.Frag} {E C : Addr} {b : Bool} (h2 : PySem.W.isClsIn K C = true) (h3 : PySem.W.typeIn K (.ref C) = some (.type "type")) (h4 : PySem.W.subIn K (.ref E) (.ref C) = some b) (hne : (Value.ref E == Value.ref C) = false ∨ b = true) :
    PySem.W.kitOne K (.ref E) (.ref C) = some b := by
  have e2 : ((PySem.W.clsIn K C).isSome && PySem.W.typeIn K (.ref C) == some (.type "type")) = true := by
    have h2' : (PySem.W.clsIn K C).isSome = true := h2
    rw [h2', h3] <;> rfl
  show (if (Value.ref E == Value.ref C) = true then some true else (if ((PySem.W.clsIn K C).isSome && PySem.W.typeIn K (.ref C) == some (.type "type")) = true then PySem.W.subIn K (.ref E) (.ref C) else none)) = some b
  by_cases hq : (Value.ref E == Value.ref C) = true
  · rw [if_pos hq]
    rcases hne with h | h
    · rw [h] at hq; cases hq
    · rw [h]
  · rw [if_neg hq, if_pos e2]
    exact h4
end
/-- the class of a value -/
inductive TyV (K : PySem.W.Frag) (H : Hp) : V → Value → Prop
  | non : TyV K H .non (.type "NoneType")
  | ins {a C dx : Addr} {fs : List (Str × V)} : H a = some (.ins C dx fs) → TyV K H (.ref a) (.ref C)
  | tup {a : Addr} {xs : List V} : SqT K H a xs → TyV K H (.ref a) (.type "tuple")
  | lst {a : Addr} {xs : List V} : SqL K H a xs → TyV K H (.ref a) (.type "list")
section
variable {X : Cx} {CX : CXT} {n : Nat} {f C : Addr} {sp : Sp} {E : XK}
def rEqO (K : PySem.W.Frag) (C : Addr) (sp : Sp) (E : XK) : R2 := fun x y H Q => ∃ a dx fs tb, x = .ref a ∧ H a = some (.ins C dx fs) ∧ TyV K H y tb ∧ PySem.W.notFirst K C tb = true ∧ sp [x, y] H (fun v H' => ∃ b, v = .bl b ∧ Q (.bl b) H') E
def rNeO (K : PySem.W.Frag) (C : Addr) (sp : Sp) (E : XK) : R2 := fun x y H Q => ∃ a dx fs tb, x = .ref a ∧ H a = some (.ins C dx fs) ∧ TyV K H y tb ∧ PySem.W.notFirst K C tb = true ∧ sp [x, y] H (fun v H' => ∃ b, v = .bl b ∧ Q (.bl (!b)) H') E
end
class HasTy (α : Type) [Rep α] (ty : outParam (Bs → Value)) : Prop where
  at_ : ∀ {W : Wc} {H : Hp} {v : V} {a : α}, den W H v a → TyV W.B.K H v (ty W.B)
instance : HasTy Stc fun B => .ref (B.cl .Stretch) := ⟨fun ⟨a, dx, hv, m, h⟩ => by subst hv; exact .ins h⟩
instance : HasTy Unit fun _ => .type "NoneType" := ⟨fun h => by cases h; exact .non⟩
instance {α β : Type} [Rep α] [Rep β] : HasTy (α × β) fun _ => .type "tuple" := ⟨fun ⟨p, x, y, hv, s, _⟩ => by subst hv; exact .tup s.sq⟩
instance {α : Type} [Rep α] : HasTy (List α) fun _ => .type "list" := ⟨fun ⟨p, vs, hv, s, _⟩ => by subst hv; exact .lst s.sq⟩
/-- the right one is of a class that does not come first -/
def TyG (α : Type) [Rep α] (B : Bs) (C : Addr) (G : Prop) : Prop := ∃ ty, HasTy α ty ∧ PySem.W.notFirst B.K C (ty B) = true ∧ G
theorem tyG_in {α : Type} [Rep α] {ty : Bs → Value} [i : HasTy α ty] {B : Bs} {C : Addr} {G : Prop} (hn : PySem.W.notFirst B.K C (ty B) = true) (h : G) : TyG α B C G := ⟨ty, i, hn, h⟩
theorem nf_self {K : PySem.W.Frag} {C : Addr} : PySem.W.notFirst K C (.ref C) = true := by
  unfold PySem.W.notFirst
  rw [beq_self_eq_true, Bool.true_or]
section
variable {W : Wd} {Γ : Gam} {te tb : TE} {B : Bs} {P : PT} {C : Addr} {K : PySem.W.Frag} {E : XK}
theorem ev_eqO {α β : Type} {rα : Rep α} {rβ : Rep β} {k : Bool → Prop} (hB : W.B = B) (hK : B.K = K)
    (h : EvK W te Γ fun s : β => EvK W tb Γ fun y : α => OwnG β B C (TyG α B C (P (fun t => ∃ b : Bool, t = T b ∧ k b) (fun _ => False) [T s, T y]))) : EvK W (tOp (rEqO K C (spG B P) E) te tb) Γ k := by
  subst hB
  subst hK
  refine ev_two (h.imp fun s hs => hs.imp fun y ⟨c, fl, iβ, hC, ty, iα, hn, hp⟩ x z H Q o dx dz q => ?_)
  subst hC
  obtain ⟨p, dp, fs, hv, _, hH, _⟩ := iβ.at_ dx
  exact ⟨p, dp, fs, _, hv, hH, iα.at_ dz, hn, W, _, _, _, rfl, o, .cons (t := T s) dx (.cons (t := T y) dz .nil), hp, fun v H2 t e2 dt ⟨b, eb, kb⟩ => by
    subst eb
    exact ⟨b, dt, q _ H2 b e2 rfl kb⟩, fun n d2 H2 _ _ z => z.elim⟩
theorem ev_neO {α β : Type} {rα : Rep α} {rβ : Rep β} {k : Bool → Prop} (hB : W.B = B) (hK : B.K = K)
    (h : EvK W te Γ fun s : β => EvK W tb Γ fun y : α => OwnG β B C (TyG α B C (P (fun t => ∃ b : Bool, t = T b ∧ k (!b)) (fun _ => False) [T s, T y]))) : EvK W (tOp (rNeO K C (spG B P) E) te tb) Γ k := by
  subst hB
  subst hK
  refine ev_two (h.imp fun s hs => hs.imp fun y ⟨c, fl, iβ, hC, ty, iα, hn, hp⟩ x z H Q o dx dz q => ?_)
  subst hC
  obtain ⟨p, dp, fs, hv, _, hH, _⟩ := iβ.at_ dx
  exact ⟨p, dp, fs, _, hv, hH, iα.at_ dz, hn, W, _, _, _, rfl, o, .cons (t := T s) dx (.cons (t := T y) dz .nil), hp, fun v H2 t e2 dt ⟨b, eb, kb⟩ => by
    subst eb
    exact ⟨b, dt, q _ H2 (!b) e2 rfl kb⟩, fun n d2 H2 _ _ z => z.elim⟩
end
end G
set_option Elab.async false
set_option linter.all false
set_option maxRecDepth 100000
set_option maxHeartbeats 2000000
namespace G
open PySem PySem.Spec PyProof.Rows L2 StX
theorem mk_none {X : Cx} {pins : List (Addr × Obj)} {σ : L2.St} {H1 : Hp} {Q : XK} {hp hp2 h2 : Heap} {g1 g2 : Array GenState} {d1 d2 : Drawn} {t1 t2 : Nat} {os1 os2 : OsState} {a C : Addr}
    (r : Raises X (.ref C)) (I1 : L2.Inv X pins σ H1 ⟨hp, g1, d1, t1, os1⟩) (hsz : hp.objs.size ≤ a) (kk : ∀ b o, hp.get? b = some o → hp2.get? b = some o)
    (un : Un (frs X.stack) [] (upd H1 a (exo a C none)) (upd H1 a (exo a C none)) hp2 h2) (hok : HOk X.prog X.w (upd H1 a (exo a C none)) h2) (os : os2 = os1) (bare : AllBare g2) (q : Q (.ref C) none H1) :
    MkP X pins σ Q (.ref a) ⟨h2, g2, d2, t2, os2⟩ := by
  have na : H1 a = none := I1.hok.fresh hsz
  obtain ⟨t0, ho⟩ := exo_at hok upd_same
  obtain ⟨G, hG1, hG2⟩ := L2.restrict h2 (fun b => b != a)
  have hG : ∀ b o, b ≠ a → h2.get? b = some o → G.get? b = some o := fun b o hb ho => by rw [hG1 b (by simp [hb])]; exact ho
  have hne : ∀ b o, hp.get? b = some o → b ≠ a := fun b o h e => by
    have h1 := Heap.lt_size h
    rw [e] at h1
    exact Nat.lt_irrefl _ (Nat.lt_of_lt_of_le h1 hsz)
  have hokG : HOk X.prog X.w H1 G := by
    intro b o hb
    have hba : b ≠ a := ne_of_none hb na
    refine (hok b o (by rw [upd_ne hba]; exact hb)).stay (fun c u hc hu => ?_) (fun c hc => ?_) (fun c xs hc => ?_)
    · refine hG c u ?_ hu
      rcases hc with hc | hc
      · rw [hc]; exact hba
      · intro e
        subst e
        rw [upd_same] at hc
        exact exo_own (Option.some.inj hc)
    · by_cases e : c = a
      · subst e
        rw [upd_same] at hc
        exact absurd (Option.some.inj hc) exo_own
      · rw [upd_ne e] at hc
        exact hc
    · by_cases e : c = a
      · subst e
        rw [upd_same] at hc
        exact absurd (Option.some.inj hc) exo_tup
      · rw [upd_ne e] at hc
        exact hc
  have unG : Un (frs X.stack) [] H1 H1 hp G := by
    refine ⟨fun b o h n m z => ?_, fun b o h n m z => ?_, fun b o _ n _ => n, fun b o h z => ?_, fun b xs h => h, fun b o u h => h, fun b ps h => ⟨#[], by simpa using h⟩⟩
    · have e := hne b o h
      exact hG b o e (un.keep b o (kk b o h) (by rw [upd_ne e]; exact n) m z)
    · have e := hne b o h
      obtain ⟨sl, hs⟩ := un.slot b o (kk b o h) (by rw [upd_ne e]; exact n) m z
      exact ⟨sl, hG b _ e hs⟩
    · have e := hne b o h
      obtain ⟨o', hs⟩ := un.there b o (kk b o h) z
      exact ⟨o', hG b _ e hs⟩
  have IG : L2.Inv X pins σ H1 ⟨G, g2, d2, t2, os2⟩ := I1.call' (s' := ⟨G, g2, d2, t2, os2⟩) os unG hokG bare (fun b hb => (nomatch hb))
  refine ⟨a, _, _, ⟨G, g2, d2, t2, os2⟩, H1, .ref C, none, rfl, IG, fun b o h => ?_, hG2 a (by simp), ho, ⟨rfl, rfl⟩, rfl, rfl, na, rfl, bare, r, q⟩
  have e : b ≠ a := fun e => by
    subst e
    have h' : G.get? b = some o := h
    rw [hG2 b (by simp)] at h'
    cases h'
  have h' : G.get? b = some o := h
  rw [hG1 b (by simp [e])] at h'
  exact h'
section
variable {X : Cx} {CX : CXT} {k n : Nat} {f g C : Addr} {sp : Sp} {E : L2.St → XK} {x m : Str} {o e : Expr} {es : List Expr} {te : TE} {t : TA} {p p2 pos apos : Pos}
def tMkO0 (C : Addr) (sp : Sp) : L2.St → Hp → XK → Prop := fun σ H Q => ∀ a, H a = none → sp [.ref a] (upd H a (exo a C none)) (fun v H2 => v = .non ∧ H2 = upd H a (exo a C none) ∧ Q (.ref C) none H) (fun _ _ _ => False)
/-- C(), an error with its own __init__ that sets no field -/
theorem pmk_oexR0 {fI : Addr} (T : OexC X.K C) (iC : PySem.W.findIn X.K (.ref C) "__init__" = some (some (.ref fI))) (tI : PySem.W.typeIn X.K (.ref fI) = some (.type "function"))
    (F : FnR X.prog X.w X.K X.mg X.base CX k fI sp) (hr : Room (k + 1) X.A) (hx : Passes CX X (fun _ _ _ => False)) (hg : Gl X x) (hm : X.mg x = some (.ref C)) (hdb : (x == ("__debug__" : Str)) = false := by decide) :
    PMk X (.Call (.Name x p) [] [] pos) (tMkO0 C sp) := by
  intro pins s σ H Q I h
  obtain ⟨nm, q, N, bs, bm, sn, sub, ab, col, dd, k0, k1, k2, k3, k5, hC, hbm⟩ := T.cls
  refine wpAny_Call_Name_kw (ld_glob I hg hm ?_ hdb)
  refine PySem.W.callWith_K0 I.kIn T.kC ?_
  show wpAny _ _ (call (.ref C) []) _ _ _
  obtain ⟨hp, g, dr, tk, os⟩ := s
  have hsz : hp.objs.size ≤ hp.objs.size + 1 := Nat.le_succ _
  have hn : H (hp.objs.size + 1) = none := I.hok.fresh hsz
  have hq := h (hp.objs.size + 1) hn
  have kk : ∀ b o, hp.get? b = some o → ((hp.push (PySem.W.kdv_tup [])).push (PySem.HandSPX.excO C hp.objs.size)).get? b = some o := fun b o e => Heap.get?_push_of_some _ (Heap.get?_push_of_some _ e)
  have hget : ((hp.push (PySem.W.kdv_tup [])).push (PySem.HandSPX.excO C hp.objs.size)).get? (hp.objs.size + 1) = some (PySem.HandSPX.excO C hp.objs.size) := by heap_get
  have I2 : L2.Inv X pins σ (upd H (hp.objs.size + 1) (exo (hp.objs.size + 1) C none)) ⟨(hp.push (PySem.W.kdv_tup [])).push (PySem.HandSPX.excO C hp.objs.size), g, dr, tk, os⟩ :=
    I.laid (t' := tk) (a := hp.objs.size + 1) (o := exo (hp.objs.size + 1) C none) (h' := (hp.push (PySem.W.kdv_tup [])).push (PySem.HandSPX.excO C hp.objs.size)) kk hsz (exo_ok hget)
  refine wpAny_call (PySem.HandSPX.call_own PySem.F.excBase_ValueError (fun Y => PySem.HandSPX.refsVE_contains Y bm hbm) (I.kIn _ _ hC) (PySem.W.looks_findIn I.kIn iC) (fun self => PySem.W.bind_fn I.kIn self tI) (by decide)
    (codeAny_mono (F _ X.stack _ _ [Value.ref (hp.objs.size + 1)] _ _ (fun _ _ _ => False) (hr.make C [] []) (I2.env0.make C [] []) (.cons (show L2.RelV (.ref _) (.ref _) from rfl) .nil) hq) fun r s' hq' => ?_))
  cases r with
  | error er => exact hx pins σ _ _ er s' I2 hq'
  | ok fl =>
    cases fl with
    | ret u =>
      obtain ⟨v, H2, os2, bare2, un2, hok2, rv, ev, eH, q2⟩ := hq'
      subst ev
      subst eH
      obtain ⟨h2, g2, d2, t2, os'⟩ := s'
      exact ⟨rv, mk_none (raises_own T.exC T.tyC) I hsz kk un2 hok2 os2 bare2 q2⟩
    | next => exact False.elim hq'
    | brk => exact False.elim hq'
    | cont => exact False.elim hq'
/-- what the text says of C.__init__, a def at f, read from the class -/
structure CliT (K : PySem.W.Frag) (C f : Addr) : Prop where
  ga : PySem.W.specialIn K (.ref C) "__getattribute__" = some (some (.builtin "type.__getattribute__"))
  rd : PySem.W.readsIn K C (.type "type") = true
  at_ : PySem.W.findCls K (.ref C) (.type "type") "__init__" = some (.val (.ref f))
  kp : PySem.W.keepIn K (.ref f) = true
/-- C.__init__(self, ..) of an own class -/
theorem pe_cinit {pl : Sem Bool} (T : CliT X.K C f) (F : FnR X.prog X.w X.K X.mg X.base CX k f sp) (hr : Room k X.A) (hx : ∀ σ, PassesAt CX X σ (E σ)) (hm : X.mg x = some (.ref C)) (ha : PA X (e :: es) t) (hg : Gl X x := by rfl) (hdb : (x == ("__debug__" : Str)) = false := by decide)
    (hc : eval (.Call (.Attribute (.Name x p) "__init__" p2) (e :: es) [] pos) X.env = (do
      let ov ← eval (.Name x p) X.env
      standAt p2.atName
      let (f, first) ← holding [ov] (getMethod ov "__init__" pl)
      callWith pos f first (backTo pos (starEach (e :: es) X.env)) (backToKw pos (keywordEach [] X.env))) := by rfl)
    (he : starEach (e :: es) X.env = (false, eval e X.env) :: starEach es X.env := by rfl) (hpl : (backTo pos (starEach es X.env)).any (·.1) = false := by rfl) :
    PE X (.Call (.Attribute (.Name x p) "__init__" p2) (e :: es) [] pos) (tCallZ sp E t) := by
  refine ⟨fun pins s σ H Q I h => ?_⟩
  refine PySem.W.methodCall_KW (ld_glob I hg hm ?_ hdb) hc
  refine PySem.W.method_cls I.kIn T.ga (PySem.W.cls_value I.kIn T.rd T.at_ (by rfl) ?_)
  show wpAny _ _ (callWith pos (Value.ref f) [] (backTo pos (starEach (e :: es) X.env)) []) _ _ _
  exact PySem.W.callWith_K (h₀ := X.base) I.ok.mod.kin T.kp (thn (ha.run pos pins _ σ H _ (I.tok _) h) fun us s1 ⟨vs, H1, I1, r1, q⟩ => ⟨I1.kIn, run_fnRS F hr (hx σ) I1 r1 q⟩) he hpl
end
/-- __init__ of an error that sets no field -/
def spE0 (K : PySem.W.Frag) : Sp := fun vs H Q E => ∃ a C, vs = [.ref a] ∧ OexC K C ∧ H a = some (exo a C none) ∧ Q .non H
theorem sx_raise0 {W : Wd} {Γ : Gam} {x : Xn → Prop} {C : Addr} {R : Po} {c : Cn} {Wx : WX} {B : Bs} {K : PySem.W.Frag} (hB : W.B = B) (hC : B.cl c = C) (T : OexC K C) (hx : HX W Γ (WE Wx) x) (h : x ⟨c, []⟩) :
    Sx W (fun _ σ H => tMkO0 C (spE0 K) σ H fun cls d H' => Wx cls d σ H') Γ R := by
  subst hB
  subst hC
  refine fun D σ H G O a ha => ⟨a, _, rfl, T, upd_same, rfl, rfl, ?_⟩
  exact hx σ H G ⟨c, []⟩ none H (Ext.refl G.ok) (.inl ⟨rfl, rfl⟩) h
theorem isF_in {W : Wd} {B : Bs} {K : PySem.W.Frag} {c : Cn} {D : Addr} {e : Er} {v : V} {cv : Value} {b : Bool} {k : Bool → Prop} (hB : W.B = B) (hc : B.cl c = D) (T : ExcC K D) (hr : ∀ u, L2.RelV v u → u = cv) (hk : PySem.W.kitOne K (.ref D) cv = some b) (h : k b) :
    (e.a = e.a ∧ e.d = e.d) ∧ ∃ (D : Addr) (cv : Value) (b : Bool), Value.ref (W.B.cl c) = .ref D ∧ ExcC K D ∧ (∀ u, L2.RelV v u → u = cv) ∧ PySem.W.kitOne K (.ref D) cv = some b ∧ k b :=
  ⟨⟨rfl, rfl⟩, D, cv, b, xcl_of hB hc, T, hr, hk, h⟩
/-- a list of four of several kinds -/
structure L4 (α β γ δ : Type) where
  a : α
  b : β
  c : γ
  d : δ
  deriving DecidableEq
instance {α β γ δ : Type} [Rep α] [Rep β] [Rep γ] [Rep δ] : Rep (L4 α β γ δ) :=
  ⟨fun W H v t => ∃ p x y z u, v = .ref p ∧ Lq W H p [x, y, z, u] ∧ den W H x t.a ∧ den W H y t.b ∧ den W H z t.c ∧ den W H u t.d,
   fun e ⟨p, x, y, z, u, hv, s, h1, h2, h3, h4⟩ => ⟨p, x, y, z, u, hv, s.mono e, Rep.mono e h1, Rep.mono e h2, Rep.mono e h3, Rep.mono e h4⟩,
   fun D n ⟨p, x, y, z, u, hv, s, h1, h2, h3, h4⟩ => ⟨p, x, y, z, u, hv, s.grow D n, Rep.grow D n h1, Rep.grow D n h2, Rep.grow D n h3, Rep.grow D n h4⟩,
   fun D ⟨p, x, y, z, u, hv, s, h1, h2, h3, h4⟩ => ⟨p, x, y, z, u, hv, s.shrink D, Rep.shrink D h1, Rep.shrink D h2, Rep.shrink D h3, Rep.shrink D h4⟩⟩
theorem eqv4 (a b c d e f g h : PyData) : PyData.eqv (.list [a, b, c, d]) (.list [e, f, g, h]) = (PyData.eqv a e && (PyData.eqv b f && (PyData.eqv c g && PyData.eqv d h))) := by
  show (PyData.eqv a e && (PyData.eqv b f && (PyData.eqv c g && (PyData.eqv d h && true)))) = _
  rw [Bool.and_true]
instance {α β γ δ : Type} [Rep α] [Rep β] [Rep γ] [Rep δ] [Dat α] [Dat β] [Dat γ] [Dat δ] : Dat (L4 α β γ δ) where
  toD := fun x => .list [Dat.toD x.a, Dat.toD x.b, Dat.toD x.c, Dat.toD x.d]
  dp := fun ⟨p, x, y, z, u, hv, s, h1, h2, h3, h4⟩ => by
    subst hv
    exact .lst s.sq (.cons (Dat.dp h1) (.cons (Dat.dp h2) (.cons (Dat.dp h3) (.cons (Dat.dp h4) .nil))))
  dep := max (Dat.dep α) (max (Dat.dep β) (max (Dat.dep γ) (Dat.dep δ))) + 1
  ddep := fun x => by
    have h1 := Dat.ddep x.a
    have h2 := Dat.ddep x.b
    have h3 := Dat.ddep x.c
    have h4 := Dat.ddep x.d
    show max (Dat.toD x.a).depth (max (Dat.toD x.b).depth (max (Dat.toD x.c).depth (max (Dat.toD x.d).depth 0))) + 1 ≤ _
    omega
  inj := fun x y => by
    rw [eqv4, Bool.and_eq_true, Bool.and_eq_true, Bool.and_eq_true, Dat.inj, Dat.inj, Dat.inj, Dat.inj]
    cases x; cases y
    exact ⟨fun h => by obtain ⟨h1, h2, h3, h4⟩ := h; cases h1; cases h2; cases h3; cases h4; rfl, fun h => by cases h; exact ⟨rfl, rfl, rfl, rfl⟩⟩
  good := fun x => Dat.good x.a ∧ Dat.good x.b ∧ Dat.good x.c ∧ Dat.good x.d
  gshp := fun x h => by
    have h1 := Dat.gshp _ h.1
    have h2 := Dat.gshp _ h.2.1
    have h3 := Dat.gshp _ h.2.2.1
    have h4 := Dat.gshp _ h.2.2.2
    show ((Dat.toD x.a).canLay0 && ((Dat.toD x.b).canLay0 && ((Dat.toD x.c).canLay0 && ((Dat.toD x.d).canLay0 && true)))) = true
    rw [h1, h2, h3, h4]
    rfl
section
variable {W : Wd} {Γ : Gam} {ta tb tc td : TE}
theorem ev_lst4 {α β γ δ : Type} {rα : Rep α} {rβ : Rep β} {rγ : Rep γ} {rδ : Rep δ} {k : L4 α β γ δ → Prop} (h : EvK W ta Γ fun a : α => EvK W tb Γ fun b : β => EvK W tc Γ fun c : γ => EvK W td Γ fun d : δ => k ⟨a, b, c, d⟩) :
    EvK W (tLst (tCons ta (tCons tb (tCons tc (tCons td tNil))))) Γ k := fun σ H Q E c =>
  h σ H _ E fun x H1 a e1 d1 h1 => h1 σ H1 _ (E.ext e1) fun y H2 b e2 d2 h2 => h2 σ H2 _ ((E.ext e1).ext e2) fun u H3 b3 e3 d3 h3 => h3 σ H3 _ (((E.ext e1).ext e2).ext e3) fun w H4 b4 e4 d4 z => ⟨by show 4 ≤ sizeLine; decide, fun p hp =>
    have e5 := Ext.new (o := .lst [x, y, u, w]) e4.ok hp
    c _ _ ⟨a, b, b3, b4⟩ ((((e1.trans e2).trans e3).trans e4).trans e5) ⟨p, x, y, u, w, rfl, Lq.new (fresh_mu e4.ok hp) upd_same, Rep.mono (((e2.trans e3).trans e4).trans e5).keep d1, Rep.mono ((e3.trans e4).trans e5).keep d2, Rep.mono (e4.trans e5).keep d3, Rep.mono e5.keep d4⟩ z⟩
end
end G
set_option Elab.async false
set_option linter.all false
set_option maxRecDepth 100000
set_option maxHeartbeats 2000000
namespace G
open PySem PySem.Spec PyProof.Rows L2 StX
abbrev Own := List (Addr × List V)
abbrev keys (L : Own) : List Addr := L.map (·.1)
structure Ol (α : Type) where
  p : Addr
  vs : List V
  as : List α
instance {α : Type} [Rep α] : Rep (Ol α) :=
  ⟨fun W H v a => v = .ref a.p ∧ Dl (den W H) a.vs a.as, fun e h => ⟨h.1, h.2.imp fun _ _ d => Rep.mono e d⟩, fun D n h => ⟨h.1, h.2.imp fun _ _ d => Rep.grow D n d⟩, fun D h => ⟨h.1, h.2.imp fun _ _ d => Rep.shrink D d⟩⟩
def Wc.plusL (W : Wc) : List Addr → Wc
  | [] => W
  | k :: r => (W.plusL r).plus k
theorem plusL_mu {W : Wc} {a : Addr} : ∀ {ks : List Addr}, (W.plusL ks).mu a ↔ W.mu a ∨ a ∈ ks
  | [] => ⟨.inl, fun h => h.elim id fun h => nomatch h⟩
  | k :: r => by
    show ((W.plusL r).mu a ∨ a = k) ↔ _
    rw [plusL_mu (ks := r), List.mem_cons]
    constructor
    · rintro ((h | h) | h)
      · exact .inl h
      · exact .inr (.inr h)
      · exact .inr (.inl h)
    · rintro (h | h | h)
      · exact .inl (.inl h)
      · exact .inr h
      · exact .inl (.inr h)
theorem plusL_B {W : Wc} : ∀ {ks : List Addr}, (W.plusL ks).B = W.B
  | [] => rfl
  | _ :: r => plusL_B (ks := r)
theorem plusL_box {W : Wc} : ∀ {ks : List Addr}, (W.plusL ks).box = W.box
  | [] => rfl
  | _ :: r => plusL_box (ks := r)
theorem shrinkL {W : Wc} {H : Hp} {v : V} {t : Ty} : ∀ {ks : List Addr}, t.den (W.plusL ks) H v → t.den W H v
  | [], h => h
  | k :: _, h => shrinkL (t.r.shrink k h)
theorem fshrinkL {W : Wc} {H : Hp} {v : V} {t : Fv} : ∀ {ks : List Addr}, t.den (W.plusL ks) H v → t.den W H v
  | [], h => h
  | k :: _, h => fshrinkL (Fv.shrink k h)
def Wd.own (W : Wd) (F : Hp) (L : Own) (oF : W.ok F) (nF : ∀ k ∈ keys L, F k = none) : Wd where
  toWc := W.toWc.plusL (keys L)
  ok := fun H => W.ok H ∧ ∀ x ∈ L, H x.1 = some (.lst x.2)
  live := fun H a ⟨h, e⟩ m => by
    rcases plusL_mu.mp m with m | m
    · exact W.live H a h m
    · obtain ⟨x, hx, rfl⟩ := List.mem_map.mp m
      exact ⟨_, e x hx⟩
  st := fun H p o ⟨h, e⟩ m => ⟨W.st H p o h fun z => m (plusL_mu.mpr (.inl z)), fun x hx => by
    have hne : x.1 ≠ p := fun z => m (plusL_mu.mpr (.inr (by rw [← z]; exact List.mem_map.mpr ⟨x, hx, rfl⟩)))
    rw [upd_ne hne]
    exact e x hx⟩
  wish := fun H => Kp W.toWc F H
  wst := fun H H' k _ w a o m e => k a o (fun z => (plusL_mu.mp z).elim m fun z => by rw [nF a z] at e; cases e) (w a o m e)
  hasbox := fun H b ⟨h, _⟩ hb => W.hasbox H b h (by rw [plusL_box] at hb; exact hb)
  boxset := fun H b c i p s i' p' s' ⟨h, e⟩ hb q h1 h2 => by
    rw [plusL_box] at hb
    refine ⟨W.boxset H b c i p s i' p' s' h hb q h1 h2, fun x hx => ?_⟩
    have z : x.1 ≠ b := fun z => by
      have h3 := nF x.1 (List.mem_map.mpr ⟨x, hx, rfl⟩)
      rw [z] at h3
      exact fresh_mu oF h3 (W.boxmu b hb)
    rw [upd_ne z]
    exact e x hx
  boxmu := fun b hb => plusL_mu.mpr (.inl (W.boxmu b (by rw [plusL_box] at hb; exact hb)))
  oke := fun H H' ⟨h, e⟩ k => ⟨W.oke H H' h k, fun x hx => k _ _ (e x hx)⟩
/-- the world Wo is W with the own lists L kept apart -/
structure OwnW (W : Wd) (L : Own) (Wo : Wd) : Prop where
  B : Wo.B = W.B
  pin : ∀ H, Wo.ok H → ∀ x ∈ L, H x.1 = some (.lst x.2)
  err : ∀ (E : XK) (x : Xn → Prop), (∀ H', W.ok H' → W.wish H' → XOk W H' E x) → ∀ H', Wo.ok H' → Wo.wish H' → XOk Wo H' E x
section
variable {W : Wd} {F : Hp} {L L' : Own} {oF : W.ok F} {nF : ∀ k ∈ keys L, F k = none}
theorem own_ext {H H' : Hp} (o : (W.own F L oF nF).ok H) (e : Ext (W.own F L oF nF) H H') : Ext W H H' := ⟨fun a u m z => by
  by_cases h : a ∈ keys L
  · obtain ⟨x, hx, rfl⟩ := List.mem_map.mp h
    have h1 := o.2 x hx
    have h2 := e.ok.2 x hx
    rw [h1] at z
    cases z
    exact h2
  · exact e.keep a u (fun z => (plusL_mu.mp z).elim m h) z, e.ok.1⟩
theorem xdenL {H : Hp} {d : Option Addr} {fs : List (Str × Fv)} {ks : List Addr} (h : xden (W.toWc.plusL ks) H d fs) : xden W.toWc H d fs :=
  h.imp (fun h => h) fun ⟨dd, vs, h1, h2, h3, h4⟩ => ⟨dd, vs, h1, fun z => h2 (plusL_mu.mpr (.inl z)), h3, h4.imp fun _ _ z => fshrinkL z⟩
theorem own_w (wF : W.wish F) : OwnW W L (W.own F L oF nF) := by
  refine ⟨plusL_B, fun H o x hx => o.2 x hx, fun E x h H' o w n d H2 e xd xn => ?_⟩
  have wH : W.wish H' := W.wst F H' w o.1 wF
  have := h H' o.1 wH n d H2 (own_ext o e) (xdenL xd) xn
  have hB : (W.own F L oF nF).B = W.B := plusL_B
  rw [hB]
  exact this
end
/-- from L at H to L' at H' -/
def Stp (W : Wd) (L : Own) (H : Hp) (L' : Own) (H' : Hp) : Prop := Kp (W.toWc.plusL (keys L)) H H' ∧ ∀ k ∈ keys L', k ∈ keys L ∨ H k = none
theorem Stp.refl {W : Wd} {L : Own} {H : Hp} : Stp W L H L H := ⟨fun _ _ _ z => z, fun _ h => .inl h⟩
theorem Stp.trans {W : Wd} {L L1 L2 : Own} {H H1 H2 : Hp} (o1 : W.ok H1) (a : Stp W L H L1 H1) (b : Stp W L1 H1 L2 H2) : Stp W L H L2 H2 := by
  refine ⟨fun x o m z => b.1 x o (fun q => ?_) (a.1 x o m z), fun k hk => ?_⟩
  · rcases plusL_mu.mp q with q | q
    · exact m (plusL_mu.mpr (.inl q))
    · rcases a.2 x q with q | q
      · exact m (plusL_mu.mpr (.inr q))
      · rw [q] at z; cases z
  · rcases b.2 k hk with h | h
    · exact a.2 k h
    · by_cases hm : k ∈ keys L
      · exact .inl hm
      · refine .inr ?_
        cases q : H k with
        | none => rfl
        | some u =>
          by_cases hw : W.mu k
          · obtain ⟨o, e⟩ := W.live H1 k o1 hw
            rw [h] at e; cases e
          · rw [a.1 k u (fun z => (plusL_mu.mp z).elim hw hm) q] at h
            cases h
structure PoM where
  nx : Own → Gam → Prop
  rt : Ty → Prop
  bk : Own → Gam → Prop := fun _ _ => False
  ct : Own → Gam → Prop := fun _ _ => False
structure EOkM (W : Wd) (F : Hp) (L : Own) (H : Hp) (D : Ends) (R : PoM) : Prop where
  nx : ∀ L' oF nF σ' H' Γ', Stp W L H L' H' → (keys L').Nodup → GOk (W.own F L' oF nF) H' σ' Γ' → R.nx L' Γ' → D.nx σ' H'
  rt : ∀ v H' (t : Ty), Ext W F H' → t.den W H' v → R.rt t → D.rt v H'
  bk : ∀ L' oF nF σ' H' Γ', Stp W L H L' H' → (keys L').Nodup → GOk (W.own F L' oF nF) H' σ' Γ' → R.bk L' Γ' → D.bk σ' H'
  ct : ∀ L' oF nF σ' H' Γ', Stp W L H L' H' → (keys L').Nodup → GOk (W.own F L' oF nF) H' σ' Γ' → R.ct L' Γ' → D.ct σ' H'
theorem EOkM.step {W : Wd} {F : Hp} {L L1 : Own} {H H1 : Hp} {D : Ends} {R : PoM} (h : EOkM W F L H D R) (o1 : W.ok H1) (s : Stp W L H L1 H1) : EOkM W F L1 H1 D R :=
  ⟨fun L' oF nF σ' H' Γ' s' => h.nx L' oF nF σ' H' Γ' (s.trans o1 s'), h.rt, fun L' oF nF σ' H' Γ' s' => h.bk L' oF nF σ' H' Γ' (s.trans o1 s'), fun L' oF nF σ' H' Γ' s' => h.ct L' oF nF σ' H' Γ' (s.trans o1 s')⟩
/-- a statement in a def with own lists L; F: the heap ahead of the first of them -/
def SxM (W : Wd) (F : Hp) (t : TS) (L : Own) (Γ : Gam) (R : PoM) : Prop :=
  ∀ D σ H oF nF, W.wish F → (keys L).Nodup → GOk (W.own F L oF nF) H σ Γ → EOkM W F L H D R → t D σ H
theorem own_gok_nil {W : Wd} {F H : Hp} {σ : L2.St} {Γ : Gam} {oF : W.ok F} {nF : ∀ k ∈ keys [], F k = none} (k : Kp W.toWc F H) (G : GOk W H σ Γ) : GOk (W.own F [] oF nF) H σ Γ := ⟨⟨G.ok, fun _ h => nomatch h⟩, k, G.at_, G.len⟩
theorem own_gok_out {W : Wd} {F H : Hp} {L : Own} {σ : L2.St} {Γ : Gam} {oF : W.ok F} {nF : ∀ k ∈ keys L, F k = none} (wF : W.wish F) (G : GOk (W.own F L oF nF) H σ Γ) : GOk W H σ Γ :=
  ⟨G.ok.1, W.wst F H G.wish G.ok.1 wF, fun i t h => let ⟨v, h1, h2⟩ := G.at_ i t h; ⟨v, h1, shrinkL h2⟩, G.len⟩
theorem own_stp {W : Wd} {F H H' : Hp} {L : Own} {oF : W.ok F} {nF : ∀ k ∈ keys L, F k = none} (e : Ext (W.own F L oF nF) H H') : Stp W L H L H' := ⟨e.keep, fun _ h => .inl h⟩
section
variable {W : Wd} {F : Hp} {L : Own} {Γ : Gam} {ta tb te : TE} {tt : TT} {t u : TS} {R : PoM} {g : TG}
/-- into the part with own lists -/
theorem sx_own {R : Po} (h : ∀ F, SxM W F t [] Γ { nx := fun _ => R.nx, rt := R.rt, bk := fun _ => R.bk, ct := fun _ => R.ct }) : Sx W t Γ R := fun D σ H G O =>
  h H D σ H G.ok (fun _ z => nomatch z) G.wish .nil (own_gok_nil (fun _ _ _ z => z) G)
    ⟨fun L' oF nF σ' H' Γ' s _ G' q => O.nx σ' H' Γ' ⟨G'.wish, G'.ok.1⟩ (own_gok_out G.wish G') q, fun v H' t e d q => O.rt v H' t e d q,
     fun L' oF nF σ' H' Γ' s _ G' q => O.bk σ' H' Γ' ⟨G'.wish, G'.ok.1⟩ (own_gok_out G.wish G') q, fun L' oF nF σ' H' Γ' s _ G' q => O.ct σ' H' Γ' ⟨G'.wish, G'.ok.1⟩ (own_gok_out G.wish G') q⟩
theorem eok_un {D : Ends} {H : Hp} {oF : W.ok F} {nF : ∀ k ∈ keys L, F k = none} (nd : (keys L).Nodup) (O : EOkM W F L H D R) (wk : Kp W.toWc F H) (o : (W.own F L oF nF).ok H) : EOk (W.own F L oF nF) H D { nx := R.nx L, rt := R.rt, bk := R.bk L, ct := R.ct L } :=
  ⟨fun σ' H' Γ' e G q => O.nx L oF nF σ' H' Γ' (own_stp e) nd G q, fun v H' t e d q => O.rt v H' t (Ext.trans (W := W) ⟨wk, o.1⟩ (own_ext o e)) (shrinkL d) q,
   fun σ' H' Γ' e G q => O.bk L oF nF σ' H' Γ' (own_stp e) nd G q, fun σ' H' Γ' e G q => O.ct L oF nF σ' H' Γ' (own_stp e) nd G q⟩
/-- a statement that leaves the own lists -/
theorem sxm_pure (h : ∀ Wo, OwnW W L Wo → Sx Wo t Γ { nx := R.nx L, rt := R.rt, bk := R.bk L, ct := R.ct L }) : SxM W F t L Γ R := fun D σ H oF nF wF nd G O =>
  h _ (own_w wF) D σ H G (eok_un nd O G.wish G.ok)
theorem sxm_seq (h : SxM W F t L Γ { R with nx := fun L' Γ' => SxM W F u L' Γ' R }) : SxM W F (tSeq t u) L Γ R := fun D σ H oF nF wF nd G O =>
  h _ σ H oF nF wF nd G ⟨fun L' oF nF σ' H' Γ' s nd' G' q => q D σ' H' oF nF wF nd' G' (O.step G'.ok.1 s), O.rt, O.bk, O.ct⟩
theorem SxM.imp {R' : PoM} (h : SxM W F t L Γ R') (n : ∀ L Γ', R'.nx L Γ' → R.nx L Γ') (r : ∀ v, R'.rt v → R.rt v) (b : ∀ L Γ', R'.bk L Γ' → R.bk L Γ') (c : ∀ L Γ', R'.ct L Γ' → R.ct L Γ') : SxM W F t L Γ R := fun D σ H oF nF wF nd G O =>
  h D σ H oF nF wF nd G ⟨fun L' oF nF σ' H' Γ' s nd' G' q => O.nx L' oF nF σ' H' Γ' s nd' G' (n _ _ q), fun v H' t e d q => O.rt v H' t e d (r _ q), fun L' oF nF σ' H' Γ' s nd' G' q => O.bk L' oF nF σ' H' Γ' s nd' G' (b _ _ q), fun L' oF nF σ' H' Γ' s nd' G' q => O.ct L' oF nF σ' H' Γ' s nd' G' (c _ _ q)⟩
theorem sxm_if (h : ∀ Wo, OwnW W L Wo → EvT Wo tt Γ fun b => (b = true → SxM W F t L Γ R) ∧ (b = false → SxM W F u L Γ R)) : SxM W F (tIfS tt t u) L Γ R := fun D σ H oF nF wF nd G O =>
  h _ (own_w wF) σ H _ G fun H1 b e1 ⟨h1, h2⟩ => by
    have G1 := G.ext e1
    cases b with
    | true => exact h1 rfl D σ H1 oF nF wF nd G1 (O.step G1.ok.1 (own_stp e1))
    | false => exact h2 rfl D σ H1 oF nF wF nd G1 (O.step G1.ok.1 (own_stp e1))
theorem sxm_next (q : R.nx L Γ) : SxM W F tNext L Γ R := sxm_pure fun Wo _ => sx_next q
theorem fresh_F {H : Hp} {p : Addr} (oH : W.ok H) (wk : Kp W.toWc F H) (n : H p = none) : F p = none := by
  cases q : F p with
  | none => rfl
  | some u =>
    rw [wk p u (fresh_mu oH n) q] at n
    cases n
/-- x = a new list, from now on an own one -/
theorem sxm_new {β : Type} {rβ : Rep β} {i : Nat} (h : ∀ Wo, OwnW W L Wo → EvF Wo te Γ fun bs : List β => ∀ p vs, R.nx ((p, vs) :: L) (Γ.set i (some (T (Ol.mk p vs bs))))) : SxM W F (tAsg te (gName i)) L Γ R := fun D σ H oF nF wF nd G O => by
  refine h _ (own_w wF) σ H _ G fun p H1 vs bs n e hp hb q => ?_
  have nFp : F p = none := fresh_F G.ok.1 G.wish n
  have hpk : p ∉ keys L := fun hk => by
    obtain ⟨x, hx, e1⟩ := List.mem_map.mp hk
    have := G.ok.2 x hx
    rw [e1, n] at this
    cases this
  have nF' : ∀ k ∈ keys ((p, vs) :: L), F k = none := fun k hk => by
    rcases List.mem_cons.mp hk with rfl | hk
    · exact nFp
    · exact nF k hk
  have s : Stp W L H ((p, vs) :: L) H1 := ⟨e.keep, fun k hk => by
    rcases List.mem_cons.mp hk with rfl | hk
    · exact .inr n
    · exact .inl hk⟩
  have G1 := G.ext e
  have kp : Kp ((W.toWc.plusL (keys L)).plus p) H H1 := fun b o m z => e.keep b o (fun z => m (.inl z)) z
  have G2 : GOk (W.own F ((p, vs) :: L) oF nF') H1 σ Γ := ⟨⟨G1.ok.1, fun x hx => by
    rcases List.mem_cons.mp hx with rfl | hx
    · exact hp
    · exact G1.ok.2 x hx⟩, G1.wish, fun j t ht => by
      obtain ⟨v, h1, h2⟩ := G.at_ j t ht
      exact ⟨v, h1, Ty.mono kp (t.r.grow p n h2)⟩, G.len⟩
  exact O.nx _ oF nF' _ H1 _ s (List.nodup_cons.mpr ⟨hpk, nd⟩) (G2.set i (t := T (Ol.mk p vs bs)) ⟨rfl, hb⟩) (q p vs)
theorem keys_set {k : Nat} {p : Addr} {vs vs' : List V} (h : L[k]? = some (p, vs)) : keys (L.set k (p, vs')) = keys L := by
  refine List.ext_getElem? fun i => ?_
  rw [List.getElem?_map, List.getElem?_map, List.getElem?_set]
  by_cases e : k = i
  · subst e
    rw [if_pos rfl]
    have hl : k < L.length := (List.getElem?_eq_some_iff.mp h).1
    rw [if_pos hl, h]
    rfl
  · rw [if_neg e]
/-- an own list changes at its place -/
theorem own_put {H : Hp} {σ : L2.St} {D : Ends} {oF : W.ok F} {nF : ∀ k ∈ keys L, F k = none} {k i : Nat} {p : Addr} {vs vs' : List V} {β : Type} {rβ : Rep β} {bs : List β} (nd : (keys L).Nodup) (G : GOk (W.own F L oF nF) H σ Γ) (O : EOkM W F L H D R)
    (hk : L[k]? = some (p, vs)) (hi : σ[i]? = some (some (.ref p))) (hb : Dl (den (W.toWc.plusL (keys L)) H) vs' bs) (q : R.nx (L.set k (p, vs')) (Γ.set i (some (T (Ol.mk p vs' bs))))) : D.nx σ (upd H p (.lst vs')) := by
  have hks : keys (L.set k (p, vs')) = keys L := keys_set hk
  have hmem : p ∈ keys L := List.mem_map.mpr ⟨_, List.mem_of_getElem? hk, rfl⟩
  have kp : Kp (W.toWc.plusL (keys L)) H (upd H p (.lst vs')) := fun b o m z => by
    have hne : b ≠ p := fun e => m (plusL_mu.mpr (.inr (by rw [e]; exact hmem)))
    rw [upd_ne hne]
    exact z
  have nF' : ∀ k' ∈ keys (L.set k (p, vs')), F k' = none := fun k' h => nF k' (by rw [hks] at h; exact h)
  have nmu : ¬ W.mu p := fresh_mu oF (nF p hmem)
  have s : Stp W L H (L.set k (p, vs')) (upd H p (.lst vs')) := ⟨kp, fun k' h => .inl (by rw [hks] at h; exact h)⟩
  have hl : k < L.length := (List.getElem?_eq_some_iff.mp hk).1
  have G2 : GOk (W.own F (L.set k (p, vs')) oF nF') (upd H p (.lst vs')) σ (Γ.set i (some (T (Ol.mk p vs' bs)))) := by
    refine ⟨⟨W.st _ _ _ G.ok.1 nmu, fun x hx => ?_⟩, fun a o m z => ?_, fun j t ht => ?_, by rw [List.length_set]; exact G.len⟩
    · obtain ⟨j, hj⟩ := List.getElem?_of_mem hx
      rw [List.getElem?_set] at hj
      by_cases e : k = j
      · rw [if_pos e, if_pos hl] at hj
        cases hj
        exact upd_same
      · rw [if_neg e] at hj
        have hne : x.1 ≠ p := fun z => by
          have h1 : (keys L)[j]? = some p := by rw [List.getElem?_map, hj, ← z]; rfl
          have h2 : (keys L)[k]? = some p := by rw [List.getElem?_map, hk]; rfl
          exact e ((List.getElem?_inj (by rw [List.length_map]; exact hl) nd).mp (h2.trans h1.symm))
        rw [upd_ne hne]
        exact G.ok.2 x (List.mem_of_getElem? hj)
    · have hne : a ≠ p := fun e => by rw [e, nF p hmem] at z; cases z
      rw [upd_ne hne]
      exact G.wish a o m z
    · show ∃ v, σ[j]? = some (some v) ∧ t.den (W.toWc.plusL (keys (L.set k (p, vs')))) _ v
      rw [hks]
      by_cases e : i = j
      · subst e
        have hl2 : i < Γ.length := by
          have := (List.getElem?_eq_some_iff.mp hi).1
          rw [G.len] at this
          exact this
        rw [List.getElem?_set_self hl2] at ht
        cases ht
        exact ⟨_, hi, rfl, hb.imp fun _ _ d => Rep.mono kp d⟩
      · rw [List.getElem?_set_ne e] at ht
        obtain ⟨v, h1, h2⟩ := G.at_ j t ht
        exact ⟨v, h1, Ty.mono kp h2⟩
  exact O.nx _ oF nF' σ _ _ s (by rw [hks]; exact nd) G2 q
theorem ol_at {Wo : Wd} {H : Hp} {σ : L2.St} {α : Type} {rα : Rep α} {i : Nat} {p : Addr} {vs : List V} {as : List α} (G : GOk Wo H σ Γ) (h : Γ[i]? = some (some (T (Ol.mk p vs as)))) : σ[i]? = some (some (.ref p)) ∧ Dl (den Wo H) vs as := by
  obtain ⟨v, h1, h2, h3⟩ := G.at_ i _ h
  subst h2
  exact ⟨h1, h3⟩
/-- xs.append(e), xs an own list -/
theorem sxm_append {α : Type} {rα : Rep α} {K : PySem.W.Frag} {i : Nat} (k : Nat) {p : Addr} {vs : List V} {as : List α} (hk : L[k]? = some (p, vs)) (hi : Γ[i]? = some (some (T (Ol.mk p vs as))))
    (h : ∀ Wo, OwnW W L Wo → EvK Wo te Γ fun a : α => as.length < 100000 ∧ ∀ v, R.nx (L.set k (p, vs ++ [v])) (Γ.set i (some (T (Ol.mk p (vs ++ [v]) (as ++ [a])))))) : SxM W F (tDrop (tBM K "list" rAppend (tVar i) (tCons te tNil))) L Γ R := fun D σ H oF nF wF nd G O => by
  obtain ⟨h1, h2⟩ := ol_at G hi
  refine ⟨_, h1, .inl ⟨rfl, _, .inl (.inl (G.ok.2 _ (List.mem_of_getElem? hk)))⟩, ?_⟩
  refine h _ (own_w wF) σ H _ G fun v H1 a e1 d ⟨hl, q⟩ => ?_
  have G1 := G.ext e1
  refine ⟨p, vs, v, rfl, rfl, G1.ok.2 _ (List.mem_of_getElem? hk), Nat.lt_of_lt_of_le (by rw [h2.length]; exact hl) (by decide : 100000 ≤ sizeLine), ?_⟩
  exact own_put nd G1 (O.step G1.ok.1 (own_stp e1)) hk h1 (Dl.append (h2.imp fun _ _ d => Rep.mono e1.keep d) (.cons d .nil)) (q v)
theorem Dl.set {α : Type} {f : V → α → Prop} : ∀ {vs : List V} {as : List α} {m : Nat} {v : V} {a : α}, Dl f vs as → f v a → Dl f (vs.set m v) (as.set m a)
  | _, _, _, _, _, .nil, _ => .nil
  | _, _, 0, _, _, .cons _ y, h => .cons h y
  | _, _, m + 1, _, _, .cons x y, h => .cons x (y.set h)
/-- for x in a list, with own lists -/
theorem sxm_forL {α : Type} {rα : Rep α} {K : PySem.W.Frag} (hK : W.B.K = K) (h : ∀ Wo, OwnW W L Wo → EvK Wo te Γ fun as : List α => ∃ I : Nat → Own → Gam → Prop, I 0 L Γ ∧
      (∀ i L' Γ', I i L' Γ' → keys L' = keys L) ∧
      (∀ (i : Nat) (a : α) L' Γ', as[i]? = some a → I i L' Γ' → ∀ Wo', OwnW W L' Wo' → Tg Wo' g Γ' a fun Γ1 => SxM W F t L' Γ1 { R with nx := I (i + 1), ct := I (i + 1), bk := R.nx }) ∧ ∀ L' Γ', I as.length L' Γ' → R.nx L' Γ') : SxM W F (tFor (iList K te) g t) L Γ R := by
  subst hK
  refine fun D σ H oF nF wF nd G O => h _ (own_w wF) σ H _ G fun v H1 as e1 ⟨p, vs, hv, hp, hd⟩ ⟨I, h0, hI, hs, hl⟩ => ?_
  have hB : (W.own F L oF nF).B.K = W.B.K := congrArg Bs.K plusL_B
  have G1 := G.ext e1
  have O1 := O.step G1.ok.1 (own_stp e1)
  have sq : ∀ H', Kp (W.toWc.plusL (keys L)) H1 H' → SqL W.B.K H' p vs := fun H' kk => .inl (.inl (kk _ _ hp.1 hp.2))
  refine ⟨p, hv, ⟨vs, sq H1 fun _ _ _ z => z⟩, for_list (K := W.B.K) (a := p) (xs := vs) (fun i σ' H' => ∃ L' oF nF Γ', Stp W L H1 L' H' ∧ (keys L').Nodup ∧ GOk (W.own F L' oF nF) H' σ' Γ' ∧ I i L' Γ') ⟨L, oF, nF, Γ, .refl, nd, G1, h0⟩ (fun i σ' H' _ ⟨L', _, _, Γ', s, _⟩ => sq H' s.1) ?_ ?_⟩
  · rintro i x σ' H' hx ⟨L', oF', nF', Γ', s, nd', G', q⟩
    obtain ⟨a, ha, da⟩ := (hd.imp fun _ _ d => Rep.mono s.1 d).at hx
    obtain ⟨js, hj⟩ := hs i a L' Γ' ha q _ (own_w (oF := oF') (nF := nF') wF)
    have da' : den (W.own F L' oF' nF').toWc H' x a := by
      show den (W.toWc.plusL (keys L')) H' x a
      rw [hI i L' Γ' q]
      exact da
    refine hj σ' H' x _ G' da' fun σ2 Γ2 G2 _ q2 => ?_
    exact q2 _ σ2 H' oF' nF' wF nd' G2 ⟨fun L3 oF3 nF3 σ3 H3 Γ3 s3 nd3 G3 q3 => ⟨L3, oF3, nF3, Γ3, s.trans G'.ok.1 s3, nd3, G3, q3⟩, fun v3 H3 t3 e3 d3 q3 => O.rt v3 H3 t3 e3 d3 q3,
      fun L3 oF3 nF3 σ3 H3 Γ3 s3 nd3 G3 q3 => O1.nx L3 oF3 nF3 σ3 H3 Γ3 (s.trans G'.ok.1 s3) nd3 G3 q3, fun L3 oF3 nF3 σ3 H3 Γ3 s3 nd3 G3 q3 => ⟨L3, oF3, nF3, Γ3, s.trans G'.ok.1 s3, nd3, G3, q3⟩⟩
  · rintro σ' H' ⟨L', oF', nF', Γ', s, nd', G', q⟩
    rw [hd.length] at q
    exact O1.nx L' oF' nF' σ' H' Γ' s nd' G' (hl L' Γ' q)
/-- for x in range(n), with own lists -/
theorem sxm_forR (h : ∀ Wo, OwnW W L Wo → EvK Wo te Γ fun n : Int => (-(2 ^ 62) ≤ n ∧ n < 2 ^ 62) ∧ ∃ I : Nat → Own → Gam → Prop, I 0 L Γ ∧
      (∀ (i : Nat) L' Γ', i < n.toNat → I i L' Γ' → ∀ Wo', OwnW W L' Wo' → Tg Wo' g Γ' (i : Int) fun Γ1 => SxM W F t L' Γ1 { R with nx := I (i + 1), ct := I (i + 1), bk := R.nx }) ∧ ∀ L' Γ', I n.toNat L' Γ' → R.nx L' Γ') : SxM W F (tFor (iRng1 (tCons te tNil)) g t) L Γ R := by
  refine fun D σ H oF nF wF nd G O => h _ (own_w wF) σ H _ G fun v H1 n e1 hv ⟨⟨b1, b2⟩, I, h0, hs, hl⟩ => ?_
  have G1 := G.ext e1
  have O1 := O.step G1.ok.1 (own_stp e1)
  refine ⟨n, congrArg (fun x => [x]) hv, b1, b2, for_range (lo := 0) (n := n.toNat) (fun i σ' H' => ∃ L' oF nF Γ', Stp W L H1 L' H' ∧ (keys L').Nodup ∧ GOk (W.own F L' oF nF) H' σ' Γ' ∧ I i L' Γ') ⟨L, oF, nF, Γ, .refl, nd, G1, h0⟩ ?_ ?_⟩
  · rintro i σ' H' hi ⟨L', oF', nF', Γ', s, nd', G', q⟩
    obtain ⟨js, hj⟩ := hs i L' Γ' hi q _ (own_w (oF := oF') (nF := nF') wF)
    refine hj σ' H' _ _ G' (by show V.int ((0 : Int) + i) = .int i; rw [Int.zero_add]) fun σ2 Γ2 G2 _ q2 => ?_
    exact q2 _ σ2 H' oF' nF' wF nd' G2 ⟨fun L3 oF3 nF3 σ3 H3 Γ3 s3 nd3 G3 q3 => ⟨L3, oF3, nF3, Γ3, s.trans G'.ok.1 s3, nd3, G3, q3⟩, fun v3 H3 t3 e3 d3 q3 => O.rt v3 H3 t3 e3 d3 q3,
      fun L3 oF3 nF3 σ3 H3 Γ3 s3 nd3 G3 q3 => O1.nx L3 oF3 nF3 σ3 H3 Γ3 (s.trans G'.ok.1 s3) nd3 G3 q3, fun L3 oF3 nF3 σ3 H3 Γ3 s3 nd3 G3 q3 => ⟨L3, oF3, nF3, Γ3, s.trans G'.ok.1 s3, nd3, G3, q3⟩⟩
  · rintro σ' H' ⟨L', oF', nF', Γ', s, nd', G', q⟩
    exact O1.nx L' oF' nF' σ' H' Γ' s nd' G' (hl L' Γ' q)
inductive Frz (L : Own) : Gam → Gam → Prop
  | nil : Frz L [] []
  | own {α : Type} {rα : Rep α} {p : Addr} {vs : List V} {as : List α} {Γ Γ' : Gam} : (p, vs) ∈ L → Frz L Γ Γ' → Frz L (some (T (Ol.mk p vs as)) :: Γ) (some (T as) :: Γ')
  | same {t : Option Ty} {Γ Γ' : Gam} : Frz L Γ Γ' → Frz L (t :: Γ) (t :: Γ')
theorem Frz.len {Γ Γ' : Gam} (h : Frz L Γ Γ') : Γ.length = Γ'.length := by
  induction h with
  | nil => rfl
  | own _ _ ih => exact congrArg (· + 1) ih
  | same _ ih => exact congrArg (· + 1) ih
theorem frz_slots {H : Hp} {Γ Γ' : Gam} (nm : ∀ k ∈ keys L, ¬ W.mu k) (pin : ∀ x ∈ L, H x.1 = some (.lst x.2)) (f : Frz L Γ Γ') : ∀ (i : Nat) (t : Ty), Γ'[i]? = some (some t) → (∀ u v, Γ[i]? = some (some u) → u.den (W.toWc.plusL (keys L)) H v → t.den W.toWc H v) ∧ ∃ u, Γ[i]? = some (some u) := by
  induction f with
  | nil => intro i t h; simp at h
  | @own α rα p vs as Γ Γ' hm _ ih =>
    intro i t h
    cases i with
    | zero =>
      have h' : some (some (T as)) = some (some t) := by simpa using h
      cases h'
      refine ⟨fun u v hu hd => ?_, _, rfl⟩
      have hu' : some (some (T (Ol.mk p vs as))) = some (some u) := by simpa using hu
      cases hu'
      obtain ⟨hv, hb⟩ := hd
      exact ⟨p, vs, hv, ⟨nm p (List.mem_map.mpr ⟨_, hm, rfl⟩), pin _ hm⟩, hb.imp fun _ _ d => shrinkL (t := T _) d⟩
    | succ i => exact ih i t (by simpa using h)
  | @same t0 Γ Γ' _ ih =>
    intro i t h
    cases i with
    | zero =>
      have h' : some t0 = some (some t) := by simpa using h
      cases h'
      refine ⟨fun u v hu hd => ?_, _, rfl⟩
      have hu' : some (some t) = some (some u) := by simpa using hu
      cases hu'
      exact shrinkL hd
    | succ i => exact ih i t (by simpa using h)
/-- own lists come to rest: from now on they do not change -/
theorem sxm_freeze {Γ' : Gam} (f : Frz L Γ Γ') (h : SxM W F t [] Γ' R) : SxM W F t L Γ R := fun D σ H oF nF wF nd G O => by
  have nm : ∀ k ∈ keys L, ¬ W.mu k := fun k hk => fresh_mu oF (nF k hk)
  have G' : GOk (W.own F [] oF fun _ z => nomatch z) H σ Γ' := ⟨⟨G.ok.1, fun _ z => nomatch z⟩, G.wish, fun i t ht => by
    obtain ⟨h1, u, hu⟩ := frz_slots nm G.ok.2 f i t ht
    obtain ⟨v, h2, h3⟩ := G.at_ i u hu
    exact ⟨v, h2, h1 u v hu h3⟩, G.len.trans f.len⟩
  refine h D σ H oF (fun _ z => nomatch z) wF .nil G' ⟨fun L' oF' nF' σ' H' Γ2 s nd' G2 q => O.nx L' oF' nF' σ' H' Γ2 ?_ nd' G2 q, O.rt, fun L' oF' nF' σ' H' Γ2 s nd' G2 q => O.bk L' oF' nF' σ' H' Γ2 ?_ nd' G2 q, fun L' oF' nF' σ' H' Γ2 s nd' G2 q => O.ct L' oF' nF' σ' H' Γ2 ?_ nd' G2 q⟩ <;>
  exact ⟨fun a o m z => s.1 a o (fun q => m (plusL_mu.mpr (.inl q))) z, fun k hk => .inr ((s.2 k hk).resolve_left fun z => nomatch z)⟩
/-- data that holds no list -/
class NoLst (α : Type) [Rep α] : Prop where
  at_ : ∀ {W : Wc} {H : Hp} {v : V} {a : α} {D : Addr} {xs : List V}, H D = some (.lst xs) → den W H v a → den (W.plus D) H v a
instance : NoLst Int := ⟨fun _ h => h⟩
instance : NoLst Bool := ⟨fun _ h => h⟩
instance : NoLst Str := ⟨fun _ h => h⟩
instance : NoLst Unit := ⟨fun _ h => h⟩
theorem tq_nl {W : Wc} {H : Hp} {p D : Addr} {vs xs : List V} (h : H D = some (.lst xs)) (s : Tq W H p vs) : Tq (W.plus D) H p vs :=
  ⟨fun z => z.elim s.1 (fun z => by have s2 := s.2; rw [z, h] at s2; cases s2), s.2⟩
instance {α β : Type} [Rep α] [Rep β] [NoLst α] [NoLst β] : NoLst (α × β) := ⟨fun h ⟨p, x, y, hv, s, h1, h2⟩ => ⟨p, x, y, hv, tq_nl h s, NoLst.at_ h h1, NoLst.at_ h h2⟩⟩
instance {α β γ : Type} [Rep α] [Rep β] [Rep γ] [NoLst α] [NoLst β] [NoLst γ] : NoLst (T3 α β γ) := ⟨fun h ⟨p, x, y, z, hv, s, h1, h2, h3⟩ => ⟨p, x, y, z, hv, tq_nl h s, NoLst.at_ h h1, NoLst.at_ h h2, NoLst.at_ h h3⟩⟩
instance : NoLst Stc := ⟨fun h ⟨a, dx, hv, m, e⟩ => ⟨a, dx, hv, fun z => z.elim m (fun z => by rw [z, h] at e; cases e), e⟩⟩
section
variable {oF : W.ok F} {nF : ∀ k ∈ keys L, F k = none}
theorem look_gok {H : Hp} {σ : L2.St} {Γ' : Gam} (wF : W.wish F) (f : Frz L Γ Γ') (G : GOk (W.own F L oF nF) H σ Γ) : GOk W H σ Γ' := by
  have nm : ∀ k ∈ keys L, ¬ W.mu k := fun k hk => fresh_mu oF (nF k hk)
  exact ⟨G.ok.1, W.wst F H G.wish G.ok.1 wF, fun i t ht => by
    obtain ⟨h1, u, hu⟩ := frz_slots nm G.ok.2 f i t ht
    obtain ⟨v, h2, h3⟩ := G.at_ i u hu
    exact ⟨v, h2, h1 u v hu h3⟩, G.len.trans f.len⟩
theorem look_ext {H H' : Hp} (o : (W.own F L oF nF).ok H) (e : Ext W H H') : Ext (W.own F L oF nF) H H' := ⟨fun a u m z => e.keep a u (fun q => m (plusL_mu.mpr (.inl q))) z, e.ok, fun x hx =>
  e.keep _ _ (fresh_mu oF (nF x.1 (List.mem_map.mpr ⟨x, hx, rfl⟩))) (o.2 x hx)⟩
theorem look_T {Γ' : Gam} {k : Bool → Prop} (wF : W.wish F) (f : Frz L Γ Γ') (h : EvT W tt Γ' k) : EvT (W.own F L oF nF) tt Γ k := fun σ H Q G c =>
  h σ H Q (look_gok wF f G) fun H' b e q => c H' b (look_ext G.ok e) q
end
theorem sxm_ifB {Γ' : Gam} (f : Frz L Γ Γ') (h : EvT W tt Γ' fun b => (b = true → SxM W F t L Γ R) ∧ (b = false → SxM W F u L Γ R)) : SxM W F (tIfS tt t u) L Γ R := fun D σ H oF nF wF nd G O =>
  look_T wF f h σ H _ G fun H1 b e1 ⟨h1, h2⟩ => by
    have G1 := G.ext e1
    cases b with
    | true => exact h1 rfl D σ H1 oF nF wF nd G1 (O.step G1.ok.1 (own_stp e1))
    | false => exact h2 rfl D σ H1 oF nF wF nd G1 (O.step G1.ok.1 (own_stp e1))
theorem evF_lst {α : Type} {rα : Rep α} {Wo : Wd} {ta : TA} {k : List α → Prop} (h : EvL Wo ta Γ fun as => as.length ≤ 100000 ∧ k as) : EvF Wo (tLst ta) Γ k := fun σ H Q E c =>
  h σ H _ E fun vs H1 as e1 ds ⟨hl, z⟩ => ⟨Nat.le_trans (by rw [ds.length]; exact hl) (by decide : 100000 ≤ sizeLine), fun p hp => by
    have e2 := Ext.new (o := .lst vs) e1.ok hp
    exact c p _ vs as (fresh_back e1.ok e1 hp) (e1.trans e2) upd_same (ds.imp fun _ _ d => Rep.mono (W := Wo.toWc.plus p) (fun b o m z => by rw [upd_ne (ne_of_none z hp)]; exact z) (Rep.grow p hp d)) z⟩
end
end G
set_option Elab.async false
set_option linter.all false
set_option maxRecDepth 100000
set_option maxHeartbeats 2000000
namespace G
open PySem PySem.Spec PyProof.Rows L2 StX
section
variable {X : Cx} {CX : CXT} {k n : Nat} {f g C p : Addr} {sp : Sp} {E : L2.St → XK} {x m : Str} {o e e2 : Expr} {es : List Expr} {te to tb : TE} {t : TA} {pp sp_ pos apos : Pos} {mc : Value}
theorem pe_appendK (K : PySem.W.Frag) (ho : PE X o to) (ha : PA X (e :: es) t) (hK : X.K = K := by rfl)
    (hbase : attributeBase o "append" X.env (eval o X.env) = eval o X.env := by rfl)
    (hfew : ((backTo pos (starEach (e :: es) X.env)).all (fun x => !x.1) && (backToKw pos (keywordEach [] X.env)).all (fun x => x.1.isSome)
      && decide ((e :: es).length + ([] : List Keyword).length + (if ([] : List Keyword).isEmpty then 0 else 1) < 30)) = true := by rfl)
    (hline : (apos.endLine == pos.line) = true := by rfl) (hs : starEach (e :: es) X.env = (false, eval e X.env) :: starEach es X.env := by rfl) (hplain : (backTo pos (starEach es X.env)).any (·.1) = false := by rfl) :
    PE X (.Call (.Attribute o "append" apos) (e :: es) [] pos) (tBM K "list" rAppend to t) := by
  subst hK
  exact pe_bm PySem.F.plainAttrs_list PySem.F.slot_list_append PySem.F.type_list_append mt_append ho ha hbase hfew hline hs hplain
/-- x(e, ..), x a local name that holds the class at C -/
def tMakeV (i : Nat) (C : Addr) (sp : Sp) (E : L2.St → XK) (t : TA) : TE := fun σ H Q => ∃ v, σ[i]? = some (some v) ∧ v = .ref C ∧ tMakeZ C sp E t σ H Q
/-- a star call's items -/
def tStarZ (K : PySem.W.Frag) (te : TE) : TA := fun σ H Q => te σ H fun y H1 => ∃ a xs, y = V.ref a ∧ (SqT K H1 a xs ∨ SqL K H1 a xs) ∧ Q xs H1
/-- C.m(e, ..), a class method -/
def tCMethZ (C : Addr) (sp : Sp) (E : L2.St → XK) (t : TA) : TE := fun σ H Q => t σ H fun vs H2 => sp (.ref C :: vs) H2 Q (E σ)
theorem cd_fnRS {pins : List (Addr × Obj)} {σ : L2.St} {H : Hp} {s : Shared} {E : XK} {Q : VK} {us : List Value} {vs : List V} (F : FnR X.prog X.w X.K X.mg X.base CX k f sp) (hr : Room k X.A) (hx : PassesAt CX X σ E) (I : L2.Inv X pins σ H s) (r : Vals vs us) (q : sp vs H Q E) :
    codeAny (model X.prog X.w) X.A (.call (.ref f) ⟨us, []⟩) (fun r s' => match r with
      | .ok (.ret v) => EP X pins σ Q v s'
      | .ok _ => False
      | .error e => X.xe e s') s := by
  refine codeAny_mono (F _ X.stack _ _ us _ _ E hr I.env0 r q) fun r s' h => ?_
  cases r with
  | error e => exact hx pins H s e s' I h
  | ok fl =>
    cases fl with
    | ret u =>
      obtain ⟨v, H2, os2, bare2, un2, hok2, rv, qv⟩ := h
      exact ⟨v, H2, I.call' os2 un2 hok2 bare2 (fun b hb => (nomatch hb)), rv, qv⟩
    | next => exact False.elim h
    | brk => exact False.elim h
    | cont => exact False.elim h
theorem run_cmZ {pins : List (Addr × Obj)} {σ : L2.St} {H : Hp} {s : Shared} {q : Addr} {E : XK} {Q : VK} {us : List Value} {vs : List V} (F : FnR X.prog X.w X.K X.mg X.base CX k g sp) (hr : Room k X.A) (hx : PassesAt CX X σ E) (I : Inv X ((q, PySem.W.methodObj (.ref g) (.ref C)) :: pins) σ H s)
    (r : Vals vs us) (h : sp (.ref C :: vs) H Q E) : wpAny (model X.prog X.w) X.A (call (.ref q) us) (EP X pins σ Q) X.xe s := by
  have z : wpAny (model X.prog X.w) X.A (call (.ref q) us) (EP X ((q, PySem.W.methodObj (.ref g) (.ref C)) :: pins) σ Q) X.xe s :=
    wpAny_call (PySem.W.method_call (ClX.pin_at I) (cd_fnRS (us := .ref C :: us) (vs := .ref C :: vs) F hr hx I (.cons rfl r) h))
  exact thn z fun _ _ y => ClX.unpinE y
theorem pe_cmethZ {pl : Sem Bool} (r : ClX.CRead X.K C mc) (c : ∃ p, ClX.CMet X.K C mc m p g) (F : FnR X.prog X.w X.K X.mg X.base CX k g sp) (hr : Room k X.A) (hx : ∀ σ, PassesAt CX X σ (E σ)) (hm : X.mg x = some (.ref C)) (ha : PA X (e :: es) t) (hg : Gl X x := by rfl) (hdb : (x == ("__debug__" : Str)) = false := by decide)
    (hst : starEach (e :: es) X.env = (false, eval e X.env) :: starEach es X.env := by rfl) (hpl : (backTo pos (starEach es X.env)).any (·.1) = false := by rfl)
    (ht : eval (.Call (.Attribute (.Name x pp) m apos) (e :: es) [] pos) X.env = (do
      let ov ← eval (.Name x pp) X.env
      standAt apos.atName
      let (f, first) ← holding [ov] (getMethod ov m pl)
      callWith pos f first (backTo pos (starEach (e :: es) X.env)) (backToKw pos (keywordEach [] X.env))) := by rfl) :
    PE X (.Call (.Attribute (.Name x pp) m apos) (e :: es) [] pos) (tCMethZ C sp E t) := by
  obtain ⟨p, c⟩ := c
  refine ⟨fun pins s σ H Q I h => ?_⟩
  refine PySem.W.methodCall_KW (pl := pl) (ld_glob I hg hm ?_ hdb) ht
  refine ClX.getmethcm_ok (I.tok _) r c fun s2 I2 => ?_
  refine ClX.callwith_cm I2 (ClX.base_none (I.tok _) (Nat.le_refl _)) c.fi (thn (ha.run pos _ s2 σ H _ I2 h) fun us s3 ⟨vs, H2, I3, rv, q2⟩ => ⟨⟨ClX.pin_at I3, I3.kIn⟩, ?_⟩) hst hpl
  exact run_cmZ F hr (hx σ) I3 rv q2
/-- e.f, a property that raises nothing, by a promise of values -/
def tPropZ (C : Addr) (sp : Sp) (ta : TE) : TE := fun σ H Q => ta σ H fun x H1 => ∃ a dx fs, x = .ref a ∧ H1 a = some (.ins C dx fs) ∧ sp [.ref a] H1 Q E0
theorem getpropZ_ok {pins : List (Addr × Obj)} {σ : L2.St} {H : Hp} {s : Shared} {Q : VK} {b : Bool} {E' : Value → Shared → Prop} {a dx : Addr} {fs : List (Str × V)} (I : Inv X pins σ H s) (ea : H a = some (.ins C dx fs)) (c : Cls X.K C) (hp : PropOf X.K C m p g)
    (F : FnR X.prog X.w X.K X.mg X.base CX k g sp) (hr : Room (k + 1) X.A) (hx : ∀ {pins σ H s e s'}, Inv X pins σ H s → CX X.stack H s E0 e s' → False) (h : sp [.ref a] H Q E0) :
    wpAny (model X.prog X.w) X.A (getAttr (.ref a) m b) (EP X pins σ Q) E' s := by
  obtain ⟨mA, O, _, _, _, _⟩ := ins_get I.hok ea
  obtain ⟨od, J, _⟩ := O.look
  obtain ⟨rest, hrec⟩ := hp.rec_
  have I1 := I.tok (s.toks + 1)
  have hc : (PySem.W.clsIn X.K C).isSome = true := by
    obtain ⟨cd, hc, _⟩ := PySem.W.any_some c.hd
    rw [hc]
    rfl
  refine PySem.W.get_bind I.kIn J (PySem.W.plainGet_of (c.get m)).1 (PySem.W.findObj_data hc hp.at_ hp.get hp.tak) (PySem.W.plainGet_of (c.get m)).2 (wpAny_call (PySem.W.prop_get (s := { s with toks := s.toks + 1 }) I.kIn hrec ?_))
  refine codeAny_mono (F X.A.in1 X.stack { s with toks := s.toks + 1 } H [.ref a] [.ref a] Q E0 hr.in1 I1.env0.in1 (.cons rfl .nil) h) fun r s' hq => ?_
  cases r with
  | error er => exact (hx I1 hq).elim
  | ok fl =>
    cases fl with
    | ret u =>
      obtain ⟨v, H', I3, rv, q3⟩ := I1.after hq
      show wpAny _ _ (handedOut u) _ _ _
      rw [PySem.W.handedOut_of (handed_of rv)]
      exact wpAny_pure ⟨v, H', I3, rv, q3⟩
    | next => exact False.elim hq
    | brk => exact False.elim hq
    | cont => exact False.elim hq
theorem pe_propZ (he : PE X e te) (c : Cls X.K C) (hp : ∃ p, PropOf X.K C m p g) (F : FnR X.prog X.w X.K X.mg X.base CX k g sp) (hr : Room (k + 1) X.A) (hx : ∀ {pins σ H s e s'}, Inv X pins σ H s → CX X.stack H s E0 e s' → False)
    (hab : attributeBase e m X.env (eval e X.env) = eval e X.env := by rfl) : PE X (.Attribute e m pos) (tPropZ C sp te) := by
  obtain ⟨p, hp⟩ := hp
  refine ⟨fun pins s σ H Q I h => ?_⟩
  refine attr_of hab (thn (he.run pins s σ H _ I h) fun u s1 ⟨x, H1, I1, rx, a, dx, fs, ex, ea, q⟩ => ?_)
  subst ex
  obtain rfl : u = Value.ref a := rx
  exact getpropZ_ok I1 ea c hp F hr hx q
theorem noX0 {pins : List (Addr × Obj)} {σ : L2.St} {H : Hp} {s : Shared} {e : Value} {s' : Shared} (I : Inv X pins σ H s) (h : CX0 X.stack H s E0 e s') : False := h
end
end G
set_option Elab.async false
set_option linter.all false
set_option maxRecDepth 100000
set_option maxHeartbeats 2000000
namespace G
open PySem PySem.Spec PyProof.Rows L2 StX
structure Cv where
  c : Cn
instance : Rep Cv := ⟨fun W _ v a => v = .ref (W.B.cl a.c), fun _ h => h, fun _ _ h => h, fun _ h => h⟩
instance : NoLst Cv := ⟨fun _ h => h⟩
structure Tl (α : Type) where
  xs : List α
instance {α : Type} [Rep α] : Rep (Tl α) :=
  ⟨fun W H v as => ∃ p vs, v = .ref p ∧ Tq W H p vs ∧ Dl (den W H) vs as.xs,
   fun e ⟨p, vs, hv, s, h⟩ => ⟨p, vs, hv, s.mono e, h.imp fun _ _ x => Rep.mono e x⟩,
   fun D n ⟨p, vs, hv, s, h⟩ => ⟨p, vs, hv, s.grow D n, h.imp fun _ _ x => Rep.grow D n x⟩,
   fun D ⟨p, vs, hv, s, h⟩ => ⟨p, vs, hv, s.shrink D, h.imp fun _ _ x => Rep.shrink D x⟩⟩
section
variable {W : Wd} {Γ : Gam} {ta : TA} {te tb to tl : TE} {tt : TT} {g : TG} {B : Bs} {P : PT} {E : L2.St → XK} {x : Xn → Prop} {C : Addr} {K : PySem.W.Frag}
/-- a pure comprehension gives a new list -/
theorem lcF_turns {α β : Type} {rα : Rep α} {rβ : Rep β} {vs : List Nat} {as : List α} (p : α → Bool) (f : α → β) (hs : ∀ W', Sub W W' → ∀ a ∈ as, LcTurn W' g tt te vs Γ a (p a = false) fun y : β => p a = true ∧ y = f a) :
    ∀ W', Sub W W' → ∀ (i : Nat) (a : α) (bs : List β), as[i]? = some a → bs = ((as.take i).filter p).map f → LcTurn W' g tt te vs Γ a (bs = ((as.take (i + 1)).filter p).map f) fun y : β => bs ++ [y] = ((as.take (i + 1)).filter p).map f := by
  intro W' s i a bs ha e
  have ht : as.take (i + 1) = as.take i ++ [a] := by
    rw [List.take_succ, ha]; rfl
  obtain ⟨js, h1, h2⟩ := hs W' s a (List.mem_of_getElem? ha)
  refine ⟨js, h1, fun σ H v Q E d c => h2 σ H v Q E d fun σ' Γ' G m q2 => c σ' Γ' G m ?_⟩
  intro σ2 H2 Q2 E2 c2
  refine q2 σ2 H2 Q2 E2 fun H3 b e3 ⟨hy, hn⟩ => c2 H3 b e3 ⟨fun hb => (hy hb).imp fun y ⟨hp, hyf⟩ => ?_, fun hb => ?_⟩
  · show bs ++ [y] = ((as.take (i + 1)).filter p).map f
    rw [ht, List.filter_append, List.map_append, ← e, List.filter_cons_of_pos hp, hyf]; rfl
  · show bs = ((as.take (i + 1)).filter p).map f
    rw [ht, List.filter_append, List.map_append, ← e, List.filter_cons_of_neg (by rw [hn hb]; exact Bool.false_ne_true)]; simp
theorem evF_lcF {α β : Type} [rα : Rep α] [rβ : Rep β] {vs : List Nat} {k : List β → Prop} (p : α → Bool) (f : α → β) (hK : W.B.K = K)
    (h : EvK W tl Γ fun as : List α => as.length ≤ 100000 ∧ (∀ W', Sub W W' → ∀ a ∈ as, LcTurn W' g tt te vs Γ a (p a = false) fun y : β => p a = true ∧ y = f a) ∧ k ((as.filter p).map f)) :
    EvF W (tLc (iList K tl) g tt te vs) Γ k := evF_lc hK (h.imp fun as ⟨hl, hs, q⟩ => ⟨hl, fun i bs => bs = ((as.take i).filter p).map f, by simp, lcF_turns p f hs, fun bs e => by rw [e, List.take_length]; exact q⟩)
def lexLe (p q : Int × Int) : Bool := decide (p.1 < q.1 ∨ (p.1 = q.1 ∧ p.2 ≤ q.2))
theorem lexLe_iff {p q : Int × Int} : lexLe p q = true ↔ p.1 < q.1 ∨ (p.1 = q.1 ∧ p.2 ≤ q.2) := by unfold lexLe; exact decide_eq_true_iff
theorem lexLe_trans (a b c : Int × Int) (h1 : lexLe a b = true) (h2 : lexLe b c = true) : lexLe a c = true := by rw [lexLe_iff] at *; omega
theorem lexLe_total (a b : Int × Int) : (lexLe a b || lexLe b a) = true := by
  rw [Bool.or_eq_true, lexLe_iff, lexLe_iff]; omega
theorem lexLe_anti (a b : Int × Int) (h1 : lexLe a b = true) (h2 : lexLe b a = true) : a = b := by
  rw [lexLe_iff] at h1 h2
  exact Prod.ext (by omega) (by omega)
def sortP (as : List (Int × Int)) : List (Int × Int) := as.mergeSort lexLe
theorem sortP_perm (as : List (Int × Int)) : (sortP as).Perm as := List.mergeSort_perm _ _
theorem sortP_sorted (as : List (Int × Int)) : (sortP as).Pairwise fun a b => lexLe a b = true := List.pairwise_mergeSort lexLe_trans lexLe_total _
theorem sortP_uniq {as bs : List (Int × Int)} (hp : bs.Perm as) (hs : bs.Pairwise fun a b => lexLe a b = true) : bs = sortP as :=
  List.Perm.eq_of_pairwise (fun a b _ _ => lexLe_anti a b) hs (sortP_sorted as) (hp.trans (sortP_perm as).symm)
/-- the ints of a pair that stands in the heap -/
def pairK (H : Hp) (v : V) : Int × Int := match v with
  | .ref t => match H t with
    | some (.tup [.int i, .int j]) => (i, j)
    | _ => (0, 0)
  | _ => (0, 0)
theorem pairK_of {W : Wc} {H : Hp} {v : V} {a : Int × Int} (h : den W H v a) : pairK H v = a ∧ ∃ t, v = V.ref t ∧ H t = some (.tup [.int (pairK H v).1, .int (pairK H v).2]) := by
  obtain ⟨p, x, y, hv, s, h1, h2⟩ := h
  have h1' : x = V.int a.1 := h1
  have h2' : y = V.int a.2 := h2
  subst h1' h2' hv
  have e : pairK H (.ref p) = a := by
    show (match H p with
      | some (.tup [.int i, .int j]) => (i, j)
      | _ => ((0 : Int), (0 : Int))) = a
    rw [s.2]
  exact ⟨e, p, rfl, by rw [e]; exact s.2⟩
theorem dl_pairK {W : Wc} {H : Hp} : ∀ {vs : List V} {as : List (Int × Int)}, Dl (den W H) vs as → vs.map (pairK H) = as
  | _, _, .nil => rfl
  | _, _, .cons x y => by rw [List.map_cons, (pairK_of x).1, dl_pairK y]
theorem Dl.mem {α : Type} {f : V → α → Prop} {v : V} : ∀ {vs : List V} {as : List α}, Dl f vs as → v ∈ vs → ∃ a, a ∈ as ∧ f v a
  | _, _, .nil, h => nomatch h
  | _, _, .cons x y, h => by
    rcases List.mem_cons.mp h with rfl | h
    · exact ⟨_, List.mem_cons_self, x⟩
    · obtain ⟨a, h1, h2⟩ := y.mem h
      exact ⟨a, List.mem_cons_of_mem _ h1, h2⟩
theorem dl_of_map {W : Wc} {H : Hp} : ∀ {vs : List V}, (∀ v ∈ vs, ∃ a : Int × Int, den W H v a) → Dl (den W H) vs (vs.map (pairK H))
  | [], _ => .nil
  | v :: r, h => by
    obtain ⟨a, d⟩ := h v List.mem_cons_self
    refine .cons ?_ (dl_of_map fun w hw => h w (List.mem_cons_of_mem _ hw))
    rw [(pairK_of d).1]
    exact d
theorem evF_sortedP {k : List (Int × Int) → Prop} (hK : W.B.K = K) (h : EvK W te Γ fun as : List (Int × Int) => k (sortP as)) : EvF W (tCB (rSortedPO K) (tCons te tNil)) Γ k := by
  subst hK
  refine fun σ H Q E c => h σ H _ E fun v H1 as e1 ⟨p, vs, hv, hp, hd⟩ z => ?_
  refine ⟨p, vs, pairK H1, by rw [hv], hp.sq, fun x hx => ?_, fun ys q hs hb hn => ?_⟩
  · obtain ⟨a, _, d⟩ := hd.mem hx
    exact (pairK_of d).2
  · have hperm : ys.Perm vs := hb.perm
    have e2 : ys.map (pairK H1) = sortP as := by
      refine sortP_uniq ?_ ?_
      · have := hperm.map (pairK H1)
        rw [dl_pairK hd] at this
        exact this
      · refine List.pairwise_map.mpr (List.Pairwise.imp (fun {a b} hab => ?_) hs)
        have hab' := SrtO.lexB_no.mp hab
        rw [lexLe_iff]
        omega
    have hd2 : Dl (den W H1) ys (sortP as) := by
      rw [← e2]
      exact dl_of_map fun w hw => by
        obtain ⟨a, _, d⟩ := hd.mem (hperm.mem_iff.mp hw)
        exact ⟨a, d⟩
    have e3 := Ext.new (o := .lst ys) e1.ok hn
    exact c q _ ys (sortP as) (fresh_back e1.ok e1 hn) (e1.trans e3) upd_same (hd2.imp fun _ _ d => Rep.mono (W := W.toWc.plus q) (fun b o m z => by rw [upd_ne (ne_of_none z hn)]; exact z) (Rep.grow q hn d)) z
theorem dl_bls {vs : List V} {as : List Bool} (h : Dl (fun v (a : Bool) => v = .bl a) vs as) : vs = as.map V.bl := by
  induction h with
  | nil => rfl
  | cons x _ ih => rw [x, ih]; rfl
theorem ev_any {k : Bool → Prop} (hK : W.B.K = K) (h : EvK W te Γ fun as : List Bool => k (as.any id)) : EvK W (tCB (rAny K) (tCons te tNil)) Γ k := by
  subst hK
  exact fun σ H Q E c => h σ H _ E fun v H1 as e1 ⟨p, vs, hv, hp, hd⟩ z => ⟨p, as, by rw [hv], by rw [← dl_bls hd]; exact hp.sq, c _ H1 _ e1 rfl z⟩
theorem ev_all {k : Bool → Prop} (hK : W.B.K = K) (h : EvK W te Γ fun as : List Bool => k (as.all id)) : EvK W (tCB (rAll K) (tCons te tNil)) Γ k := by
  subst hK
  exact fun σ H Q E c => h σ H _ E fun v H1 as e1 ⟨p, vs, hv, hp, hd⟩ z => ⟨p, as, by rw [hv], by rw [← dl_bls hd]; exact hp.sq, c _ H1 _ e1 rfl z⟩
theorem ev_sum {k : Int → Prop} (hK : W.B.K = K) (h : EvK W te Γ fun as : List Int => k as.sum) : EvK W (tCB (rSum K) (tCons te tNil)) Γ k := by
  subst hK
  exact fun σ H Q E c => h σ H _ E fun v H1 as e1 ⟨p, vs, hv, hp, hd⟩ z => ⟨p, as, by rw [hv], by rw [← Dl.ints hd]; exact hp.sq, c _ H1 _ e1 rfl z⟩
theorem ev_maxL {k : Int → Prop} (hK : W.B.K = K) (h : EvK W te Γ fun as : List Int => 0 < as.length ∧ ∀ m, m ∈ as → (∀ y, y ∈ as → y ≤ m) → k m) : EvK W (tCB (rMax K) (tCons te tNil)) Γ k := by
  subst hK
  exact fun σ H Q E c => h σ H _ E fun v H1 as e1 ⟨p, vs, hv, hp, hd⟩ ⟨hl, z⟩ => ⟨p, as, by rw [hv], by rw [← Dl.ints hd]; exact hp.sq, hl, fun m h1 h2 => c _ H1 _ e1 rfl (z m h1 h2)⟩
/-- a list as a test -/
theorem et_truthL {α : Type} {rα : Rep α} {k : Bool → Prop} (hK : W.B.K = K) (h : EvK W te Γ fun as : List α => k (!as.isEmpty)) : EvT W (fun σ H Q => te σ H fun x H' => ∃ k, TruV K x H' k ∧ Q k H') Γ k := by
  subst hK
  refine fun σ H Q E c => h σ H _ E fun v H1 as e1 ⟨p, vs, hv, hp, hd⟩ z => ⟨!as.isEmpty, ?_, c H1 _ e1 z⟩
  subst hv
  refine .inl ⟨vs, hp.sq, ?_⟩
  cases hd <;> rfl
theorem ev_cmethZ {α : Type} {rα : Rep α} {k : α → Prop} (c : Cn) (hB : W.B = B) (hC : B.cl c = C) (hx : HX W Γ E x) (h : EvA W ta Γ fun ts => P (fun t => ∃ a : α, t = T a ∧ k a) x (T (Cv.mk c) :: ts)) : EvK W (tCMethZ C (spG B P) E ta) Γ k := by
  subst hB
  subst hC
  exact fun σ H Q G q => h σ H _ G fun vs H1 ts e1 d z => ⟨W, _, _, x, rfl, e1.ok, .cons (t := T (Cv.mk c)) rfl d, z, fun v H2 t e2 dt ⟨a, ea, qq⟩ => by
    subst ea
    exact q v H2 a (e1.trans e2) dt qq, hx σ H1 (G.ext e1)⟩
theorem ev_propZ {α β : Type} {rα : Rep α} {rβ : Rep β} {k : α → Prop} (hB : W.B = B)
    (h : EvK W te Γ fun s : β => OwnG β B C (P (fun t => ∃ a : α, t = T a ∧ k a) (fun _ => False) [T s])) : EvK W (tPropZ C (spG B P) te) Γ k := by
  subst hB
  refine fun σ H Q G c => h σ H _ G fun v H1 s e1 d ⟨cc, fl, iβ, hC, z⟩ => ?_
  subst hC
  obtain ⟨p, dp, fs, hv, _, hH, _⟩ := iβ.at_ d
  refine ⟨p, dp, fs, hv, hH, W, _, _, _, rfl, e1.ok, .cons (t := T s) (by rw [← hv]; exact d) .nil, z, fun v H3 t e3 dt ⟨a, ea, q⟩ => by
    subst ea
    exact c v H3 a (e1.trans e3) dt q, fun n d2 H2 _ _ q => q.elim⟩
theorem ev_makeV {α : Type} {rα : Rep α} {c : Cn} {sp : Sp} {i : Nat} {k : α → Prop} (hB : W.B = B) (hC : B.cl c = C) (hi : Γ[i]? = some (some (T (Cv.mk c)))) (h : EvK W (tMakeZ C sp E ta) Γ k) : EvK W (tMakeV i C sp E ta) Γ k := by
  subst hB
  subst hC
  exact fun σ H Q G q => by
    obtain ⟨v, h1, h2⟩ := G.at_ i _ hi
    exact ⟨v, h1, h2, h σ H Q G q⟩
/-- a star call's items from a list, a tuple -/
theorem el_starL {α : Type} {rα : Rep α} {k : List α → Prop} (hK : W.B.K = K) (h : EvK W te Γ fun as : List α => k as) : EvL W (tStarZ K te) Γ k := by
  subst hK
  exact fun σ H Q E c => h σ H _ E fun v H1 as e1 ⟨p, vs, hv, hp, hd⟩ z => ⟨p, vs, hv, .inr hp.sq, c vs H1 as e1 hd z⟩
theorem el_starT {α : Type} {rα : Rep α} {k : List α → Prop} (hK : W.B.K = K) (h : EvK W te Γ fun as : Tl α => k as.xs) : EvL W (tStarZ K te) Γ k := by
  subst hK
  exact fun σ H Q E c => h σ H _ E fun v H1 as e1 ⟨p, vs, hv, hp, hd⟩ z => ⟨p, vs, hv, .inl hp.sq, c vs H1 as.xs e1 hd z⟩
end
structure Lvs where
  ps : List Stc
  deriving DecidableEq
instance : Rep Lvs :=
  ⟨fun W H v l => ∃ a dx y, v = .ref a ∧ ¬ W.mu a ∧ H a = some (.ins (W.B.cl .Levels) dx [("_pieces", y)]) ∧ den W H y l.ps,
   fun e ⟨a, dx, y, hv, m, h, d⟩ => ⟨a, dx, y, hv, m, e _ _ m h, Rep.mono e d⟩,
   fun D n ⟨a, dx, y, hv, m, h, d⟩ => ⟨a, dx, y, hv, mu_grow n m h, h, Rep.grow D n d⟩,
   fun D ⟨a, dx, y, hv, m, h, d⟩ => ⟨a, dx, y, hv, fun z => m (.inl z), h, Rep.shrink D d⟩⟩
instance : Ins Lvs .Levels ["_pieces"] := ⟨fun ⟨a, dx, y, hv, m, h, _⟩ => ⟨a, dx, _, hv, m, h, rfl⟩⟩
instance : Pln Lvs := ⟨fun ⟨a, dx, y, hv, _⟩ => .inl ⟨a, hv⟩⟩
structure LvsT (B : Bs) : Prop where
  cl : Cls B.K (B.cl .Levels)
  np : NoAttr B.K (B.cl .Levels) "_pieces"
theorem lvs_of {W : Wd} {B : Bs} (h : W.B = B) (s : LvsT B) : LvsT W.B := h ▸ s
section
variable {W : Wd} {Γ : Gam} {ta : TA} {te tb to tl : TE} {tt : TT} {g : TG} {B : Bs} {P : PT} {E : L2.St → XK} {x : Xn → Prop} {C : Addr} {K : PySem.W.Frag}
theorem ev_pieces {k : List Stc → Prop} (hK : W.B.K = K) (hL : LvsT W.B) (h : EvK W te Γ fun s : Lvs => k s.ps) : EvK W (tFld K te "_pieces") Γ k := by
  subst hK
  refine fun σ H Q E c => h σ H _ E fun v H1 s e1 ⟨a, dx, y, hv, m, hH, d⟩ z => ?_
  exact ⟨a, _, dx, _, y, hv, hH, hL.cl, hL.np, by simp [List.lookup], c y H1 _ e1 d z⟩
/-- the fewest pieces: pairs in order are joined -/
def joinStep (acc : List (Int × Int)) (p : Int × Int) : List (Int × Int) := match acc.getLast? with
  | some q => if p.1 ≤ q.2 + 1 then acc.dropLast ++ [(q.1, max q.2 p.2)] else acc ++ [p]
  | none => [p]
def joinF (ps : List (Int × Int)) : List (Int × Int) := ps.foldl joinStep []
def mkStc (p : Int × Int) : Stc := ⟨p.1, p.2⟩
def stcE (s : Stc) : Int × Int := (s.lo, s.hi)
def unionF (ps : List (Int × Int)) : List (Int × Int) := joinF (sortP ps)
def lvF (ss : List Stc) : List Stc := (unionF (ss.map stcE)).map mkStc
/-- __init__ of Levels, its stretches a tuple -/
def spLI (B : Bs) : Sp := fun vs H Q E => ∃ (W : Wd) (p dx q : Addr) (ss : List Stc), vs = [.ref p, .ref q] ∧ H p = some (.ins (B.cl .Levels) dx []) ∧ W.B = B ∧ W.ok H ∧ ¬ W.mu p ∧ den W H (.ref q) (Tl.mk ss) ∧ ss.length ≤ 1000 ∧ (∀ s ∈ ss, s.lo ≤ s.hi) ∧
  ∀ H' y, Ext W H H' → den W H' y (lvF ss) → Q .non (upd H' p (.ins (B.cl .Levels) dx [("_pieces", y)]))
/-- .. as a call sees it -/
def spLS (B : Bs) : Sp := fun vs H Q E => ∃ ws rest, vs = ws ++ rest ∧ ws.length = 1 ∧ rest.length ≤ sizeLine ∧ ∀ p, H p = Option.none → spLI B (ws ++ [V.ref p]) (upd H p (.tup rest)) Q E
theorem ev_levels {k : Lvs → Prop} (hB : W.B = B) (hC : B.cl .Levels = C) (h : EvL W ta Γ fun ss : List Stc => (ss.length ≤ 1000 ∧ ∀ s ∈ ss, s.lo ≤ s.hi) ∧ k ⟨lvF ss⟩) : EvK W (tMakeZ C (spLS B) E ta) Γ k := by
  subst hB
  subst hC
  refine fun σ H Q G c => h σ H _ G fun vs H1 ss e1 d ⟨⟨hl, ho⟩, z⟩ xx dx nx ndx nex => ?_
  have o := e1.ok
  have m1 := fresh_mu o ndx
  have m2 := fresh_mu o nx
  have ok3 : W.ok (upd (upd H1 dx (.own xx)) xx (.ins (W.B.cl .Levels) dx [])) := W.st _ _ _ (W.st _ _ _ o m1) m2
  have e3 : Ext W H1 (upd (upd H1 dx (.own xx)) xx (.ins (W.B.cl .Levels) dx [])) := ⟨fun a u _ q => by rw [upd_ne (ne_of_none q nx), upd_ne (ne_of_none q ndx)]; exact q, ok3⟩
  refine ⟨[V.ref xx], vs, rfl, rfl, Nat.le_trans (by rw [d.length]; omega : vs.length ≤ 1000) (by decide), fun p hp => ?_⟩
  have e4 := Ext.new (o := .tup vs) ok3 hp
  have hpx : xx ≠ p := fun e => by rw [← e, upd_same] at hp; cases hp
  refine ⟨W, xx, dx, p, ss, rfl, by rw [upd_ne hpx, upd_same], rfl, e4.ok, m2, ⟨p, vs, rfl, Tq.new (fresh_mu ok3 hp) upd_same, d.imp fun _ _ y => Rep.mono (e3.trans e4).keep y⟩, hl, ho, fun H' y e5 dy => ⟨rfl, ?_⟩⟩
  have e6 := (e3.trans e4).trans e5
  have nxH' : ∀ a u, H1 a = some u → a ≠ xx := fun a u q => ne_of_none q nx
  have k7 : Kp W.toWc H1 (upd H' xx (.ins (W.B.cl .Levels) dx [("_pieces", y)])) := fun a u m q => by rw [upd_ne (nxH' a u q)]; exact e6.keep a u m q
  have hx' : H' xx = some (.ins (W.B.cl .Levels) dx []) := (e4.trans e5).keep xx _ m2 upd_same
  refine c (.ref xx) _ ⟨lvF ss⟩ (e1.trans ⟨k7, W.st _ _ _ e6.ok m2⟩) ⟨xx, dx, y, rfl, m2, upd_same, ?_⟩ z
  -- the pieces do not lean on the new object itself
  obtain ⟨p2, ws, hv, hq, hw⟩ := dy
  have ne2 : p2 ≠ xx := fun e => by have := hq.2; rw [e, hx'] at this; cases this
  refine ⟨p2, ws, hv, ⟨hq.1, by rw [upd_ne ne2]; exact hq.2⟩, hw.imp fun v s ⟨a, da, hv2, ma, ha⟩ => ⟨a, da, hv2, ma, ?_⟩⟩
  have ne3 : a ≠ xx := fun e => by
    rw [e, hx'] at ha
    injection ha with ha
    injection ha with _ _ ha
    cases ha
  rw [upd_ne ne3]
  exact ha
end
end G
set_option Elab.async false
set_option linter.all false
set_option maxRecDepth 100000
set_option maxHeartbeats 2000000
namespace G
open PySem PySem.Spec PyProof.Rows L2 StX
section
variable {X : Cx} {CX : CXT} {k n : Nat} {f g C p : Addr} {sp : Sp} {E : XK}
def rStrO (C : Addr) (sp : Sp) (E : XK) : List V → Hp → VK → Prop := fun xs H Q => ∃ a dx fs, xs = [.ref a] ∧ H a = some (.ins C dx fs) ∧ sp [.ref a] H (fun v H' => ∃ y, v = .str y ∧ Q (.str y) H') E
def rLenO (C : Addr) (sp : Sp) (E : XK) : List V → Hp → VK → Prop := fun xs H Q => ∃ a dx fs, xs = [.ref a] ∧ H a = some (.ins C dx fs) ∧ sp [.ref a] H (fun v H' => ∃ i : Int, v = .int i ∧ (0 ≤ i ∧ i < 2 ^ 63) ∧ Q (.int i) H') E
end
section
variable {W : Wd} {Γ : Gam} {ta : TA} {te tb to tl : TE} {B : Bs} {P : PT} {E : XK} {x : Xn → Prop} {C C2 : Addr} {K : PySem.W.Frag}
theorem ev_strO {β : Type} {rβ : Rep β} {k : Str → Prop} (hB : W.B = B) (h : EvK W te Γ fun s : β => OwnG β B C (P (fun t => ∃ y : Str, t = T y ∧ k y) (fun _ => False) [T s])) : EvK W (tCB (rStrO C (spG B P) E) (tCons te tNil)) Γ k := by
  subst hB
  refine fun σ H Q G c => h σ H _ G fun v H1 s e1 d ⟨cc, fl, iβ, hC, z⟩ => ?_
  subst hC
  obtain ⟨p, dp, fs, hv, _, hH, _⟩ := iβ.at_ d
  exact ⟨p, dp, fs, by rw [hv], hH, W, _, _, _, rfl, e1.ok, .cons (t := T s) (by rw [← hv]; exact d) .nil, z, fun v H3 t e3 dt ⟨a, ea, q⟩ => by
    subst ea
    exact ⟨a, dt, c _ H3 a (e1.trans e3) rfl q⟩, fun n d2 H2 _ _ q => q.elim⟩
theorem ev_lenO {β : Type} {rβ : Rep β} {k : Int → Prop} (hB : W.B = B) (h : EvK W te Γ fun s : β => OwnG β B C (P (fun t => ∃ y : Int, t = T y ∧ (0 ≤ y ∧ y < 2 ^ 63) ∧ k y) (fun _ => False) [T s])) : EvK W (tCB (rLenO C (spG B P) E) (tCons te tNil)) Γ k := by
  subst hB
  refine fun σ H Q G c => h σ H _ G fun v H1 s e1 d ⟨cc, fl, iβ, hC, z⟩ => ?_
  subst hC
  obtain ⟨p, dp, fs, hv, _, hH, _⟩ := iβ.at_ d
  exact ⟨p, dp, fs, by rw [hv], hH, W, _, _, _, rfl, e1.ok, .cons (t := T s) (by rw [← hv]; exact d) .nil, z, fun v H3 t e3 dt ⟨a, ea, hb, q⟩ => by
    subst ea
    exact ⟨a, dt, hb, c _ H3 a (e1.trans e3) rfl q⟩, fun n d2 H2 _ _ q => q.elim⟩
/-- texts -/
theorem ev_addS {k : Str → Prop} (h : EvK W te Γ fun a : Str => EvK W tb Γ fun b : Str => a.length + b.length ≤ 1000000 ∧ k (a ++ b)) : EvK W (tOp (fun x y H Q => ∃ i j, x = .str i ∧ y = .str j ∧ i.length + j.length ≤ sizeLine ∧ Q (.str (i ++ j)) H) te tb) Γ k :=
  ev_two (h.imp fun a ha => ha.imp fun b ⟨hl, z⟩ x y H Q o dx dy c => ⟨a, b, dx, dy, Nat.le_trans hl (by decide), c _ H _ (Ext.refl o) rfl z⟩)
theorem ev_strI {k : Str → Prop} (h : EvK W te Γ fun i : Int => Small i ∧ k (toString i)) : EvK W (tCB (fun xs H Q => ∃ i, xs = [.int i] ∧ i.natAbs.log2 < 1920 ∧ Q (.str (toString i)) H) (tCons te tNil)) Γ k := fun σ H Q G c =>
  h σ H _ G fun v H1 i e1 d ⟨s, z⟩ => ⟨i, congrArg (fun x => [x]) d, s, c _ H1 _ e1 rfl z⟩
instance : HasTy Lvs fun B => .ref (B.cl .Levels) := ⟨fun ⟨a, dx, y, hv, m, h, _⟩ => by subst hv; exact .ins h⟩
end
theorem strOk_of (s : String) : PyData.strOk (Str.ofString s) = true := by
  rw [Str.ofString_eq_toList]
  unfold PyData.strOk
  rw [Array.all_eq_true']
  intro x hx
  simp only [List.mem_toArray, List.mem_map] at hx
  obtain ⟨c, _, rfl⟩ := hx
  have := c.valid
  rcases this with h | ⟨_, h⟩
  · exact decide_eq_true (Nat.lt_trans h (by decide))
  · exact decide_eq_true h
theorem str_app_cps (a b : Str) : (a ++ b).cps = a.cps ++ b.cps := rfl
theorem strOk_app {a b : Str} (h1 : PyData.strOk a = true) (h2 : PyData.strOk b = true) : PyData.strOk (a ++ b) = true := by
  unfold PyData.strOk at *
  rw [str_app_cps, Array.all_append, h1, h2]; rfl
theorem strOk_emp : PyData.strOk Str.empty = true := by simp [PyData.strOk, Str.empty]
theorem emp_len : Str.empty.length = 0 := rfl
section
variable {W : Wd} {Γ : Gam} {ta : TA} {te tb to tl : TE} {K : PySem.W.Frag}
theorem ev_sortedP {k : List (Int × Int) → Prop} (hK : W.B.K = K) (h : EvK W te Γ fun as : List (Int × Int) => k (sortP as)) : EvK W (tCB (rSortedPO K) (tCons te tNil)) Γ k := (evF_sortedP hK h).k
end
/-- a chain whose last part is plain -/
def ChG (W : Wd) (te : TE) (Γ : Gam) (k : Int → Prop) : Prop := ∃ l : Int, EvK W te Γ (fun a => a = l) ∧ k l
theorem chg_in {W : Wd} {te : TE} {Γ : Gam} {k : Int → Prop} {l : Int} (h1 : EvK W te Γ fun a => a = l) (h : k l) : ChG W te Γ k := ⟨l, h1, h⟩
theorem ev_chainP {W : Wd} {ta tb tc : TE} {Γ : Gam} {f g : Int → Int → Bool} {k : Bool → Prop} (h : EvK W ta Γ fun i : Int => EvK W tb Γ fun j : Int => ChG W tc Γ fun l => k (f i j && g j l)) :
    EvK W (tChain (rI0 fun i j => .bl (f i j)) (rI0 fun i j => .bl (g i j)) ta tb tc) Γ k :=
  ev_chain (h.imp fun i hi => hi.imp fun j ⟨l, h1, h2⟩ => ⟨fun e => h1.imp fun a ea => by rw [ea]; rw [e, Bool.true_and] at h2; exact h2, fun e => by rw [e, Bool.false_and] at h2; exact h2⟩)
section
variable {α : Type} {r : Rep α} {W : Wd} {Γ : Gam} {ta : TA} {te tb to : TE} {tt : TT} {ts : TS} {k : α → Prop} {kb : Bool → Prop} {kt : List Ty → Prop} {kl : List α → Prop} {R : Po} {K : PySem.W.Frag}
theorem gd_s (h : Sx W ts Γ R) : Sx W ts Γ R := h
theorem gd_set {i : Nat} {v : Option Ty} (h : Sx W ts (Γ.set i v) R) : Sx W ts (Γ.set i v) R := h
theorem gd_k (h : EvK W te Γ k) : EvK W te Γ k := h
theorem gd_var {i : Nat} (h : EvK W (tVar i) Γ k) : EvK W (tVar i) Γ k := h
theorem gd_c {v : V} (h : EvK W (tC v) Γ k) : EvK W (tC v) Γ k := h
theorem gd_op {q : R2} (h : EvK W (tOp q te tb) Γ k) : EvK W (tOp q te tb) Γ k := h
theorem gd_un {q : V → Hp → VK → Prop} (h : EvK W (tUn q te) Γ k) : EvK W (tUn q te) Γ k := h
theorem gd_cb {q : List V → Hp → VK → Prop} (h : EvK W (tCB q ta) Γ k) : EvK W (tCB q ta) Γ k := h
theorem gd_fld {f : Str} (h : EvK W (tFld K te f) Γ k) : EvK W (tFld K te f) Γ k := h
theorem gd_call {sp : Sp} {E : XK} (h : EvK W (tCallR sp E ta) Γ k) : EvK W (tCallR sp E ta) Γ k := h
theorem gd_tup (h : EvK W (tTup ta) Γ k) : EvK W (tTup ta) Γ k := h
theorem gd_lst (h : EvK W (tLst ta) Γ k) : EvK W (tLst ta) Γ k := h
theorem gd_t (h : EvT W tt Γ kb) : EvT W tt Γ kb := h
theorem gd_a (h : EvA W ta Γ kt) : EvA W ta Γ kt := h
theorem gd_l (h : EvL W ta Γ kl) : EvL W ta Γ kl := h
theorem gd_j {tj : List TE} {acc : Str} {ks : Str → Prop} (h : EvJ W tj Γ acc ks) : EvJ W tj Γ acc ks := h
end
end G
set_option Elab.async false
set_option linter.all false
namespace G
open PySem
def inP' (x : Int) (p : Int × Int) : Prop := p.1 ≤ x ∧ x ≤ p.2
def memP (x : Int) (ps : List (Int × Int)) : Prop := ∃ p ∈ ps, inP' x p
/-- ascending pieces with gaps between -/
def NF (ps : List (Int × Int)) : Prop := (∀ q ∈ ps, q.1 ≤ q.2) ∧ ps.Pairwise fun a b => a.2 + 1 < b.1
end G
set_option Elab.async false
set_option linter.all false
set_option maxRecDepth 100000
set_option maxHeartbeats 2000000
namespace G
open PySem PySem.Spec PyProof.Rows L2 StX
end G
namespace G
open PySem PySem.Spec PyProof.Rows L2 StX
section
variable {X : Cx}
/-- an iterator's own objects, seen from within the block -/
theorem blk_fp {s0 : Shared} {H0 : Hp} {sc : Scope} {ce : Env} {fp : List Addr} {σ : L2.St} {H : Hp} {s : Shared} (I : L2.Inv (X.blk s0 H0 sc ce fp) [] σ H s) (hn : ∀ b ∈ fp, H b = none) : ∀ b ∈ fp, FpOk (X.blk s0 H0 sc ce fp) [] H b := by
  intro b hb
  obtain ⟨h1, h2⟩ := I.ok.exf b hb
  exact ⟨hn b hb, h1, I.ok.exfs b hb, Or.inl hb, fun y c => h2 y c, fun p hp => by cases (show p ∈ ([] : List (Addr × Obj)) ++ [] from hp)⟩
end
end G
set_option Elab.async false
set_option linter.all false
set_option maxRecDepth 100000
set_option maxHeartbeats 2000000
namespace G
open PySem PySem.Spec PyProof.Rows L2 StX
theorem turns {J : It} {n : Nat} {B : V → Hp → (Hp → Prop) → Prop} {Zf : Hp → Prop} {H0 : Hp} (P : Nat → Hp → Prop) (h0 : P 0 H0) (hgo : ∀ i H, i < n → P i H → J.go i H) (hst : ∀ H, P n H → J.stop n H)
    (hs : ∀ i H x H', i < n → P i H → J.yld i H x H' → B x H' (P (i + 1))) (hd : ∀ H, P n H → Zf H) :
    ∃ W : Nat → Nat → Hp → Prop, (∃ m, W 0 m H0) ∧ ∀ i m H, W i m H → (J.stop i H ∧ Zf H) ∨ (J.go i H ∧ ∃ Z : Hp → Prop, (∀ H', Z H' → ∃ m', m' < m ∧ W (i + 1) m' H') ∧ ∀ x H', J.yld i H x H' → B x H' Z) := by
  refine ⟨fun i m H => m + i = n ∧ P i H, ⟨n, rfl, h0⟩, fun i m H ⟨e, p⟩ => ?_⟩
  rcases Nat.eq_zero_or_pos m with hm | hm
  · have hi : i = n := by omega
    subst hi
    exact .inl ⟨hst H p, hd H p⟩
  · exact .inr ⟨hgo i H (by omega) p, P (i + 1), fun H' p' => ⟨m - 1, by omega, by omega, p'⟩, fun x H' y => hs i H x H' (by omega) p y⟩
structure IS where
  w : World
  S : Int → Bool
  n : Nat
instance : Rep IS := ⟨fun W H v s => ∃ a, v = .ref a ∧ ¬ W.mu a ∧ H a = some (SetO s.w a s.S s.n), fun e ⟨a, hv, m, h⟩ => ⟨a, hv, m, e _ _ m h⟩, fun D n ⟨a, hv, m, h⟩ => ⟨a, hv, mu_grow n m h, h⟩, fun D ⟨a, hv, m, h⟩ => ⟨a, hv, fun z => m (.inl z), h⟩⟩
/-- the world where a new object at D is kept apart -/
def Wd.plusO (W : Wd) (D : Addr) (o : HO) (H1 : Hp) (n : H1 D = none) (o1 : W.ok H1) (w1 : W.wish H1) : Wd where
  toWc := W.toWc.plus D
  ok := fun H => W.ok H ∧ H D = some o
  live := fun H a ⟨h, e⟩ m => m.elim (W.live H a h) fun m => ⟨o, by rw [m]; exact e⟩
  st := fun H p u ⟨h, e⟩ m => ⟨W.st H p u h fun z => m (.inl z), by rw [upd_ne (fun z => m (.inr z.symm))]; exact e⟩
  wish := fun H => Kp W.toWc H1 H
  wst := fun H H' k _ w a u m e => k a u (fun z => z.elim m fun z => by rw [z, n] at e; cases e) (w a u m e)
  hasbox := fun H b h hb => W.hasbox H b h.1 hb
  boxset := fun H b c i p s i' p' s' h hb q h1 h2 => ⟨W.boxset H b c i p s i' p' s' h.1 hb q h1 h2, by
    have z : D ≠ b := fun z => fresh_mu o1 n (z ▸ W.boxmu b hb)
    rw [upd_ne z]; exact h.2⟩
  boxmu := fun b hb => .inl (W.boxmu b hb)
  oke := fun H H' h k => ⟨W.oke H H' h.1 k, k _ _ h.2⟩
theorem Sub.plusO {W : Wd} {D : Addr} {o : HO} {H1 : Hp} {n : H1 D = none} {o1 : W.ok H1} {w1 : W.wish H1} : Sub W (W.plusO D o H1 n o1 w1) :=
  ⟨rfl, fun _ h => h.1, fun H h w => W.wst H1 H w h.1 w1⟩
section
variable {W : Wd} {Γ : Gam} {ta : TA} {te tb to tl ti : TE} {tt : TT} {g g2 : TG} {K : PySem.W.Frag}
theorem js_in {js vs : List Nat} (h : (js.all fun j => vs.contains j) = true) : ∀ j ∈ js, j ∈ vs := fun j hj => by
  have := List.all_eq_true.mp h j hj
  simpa using this
end
end G
set_option Elab.async false
set_option linter.all false
set_option maxRecDepth 100000
set_option maxHeartbeats 2000000
namespace G
open PySem PySem.Spec PyProof.Rows L2 StX
section
variable {W : Wd} {Γ : Gam} {ta tb : TE} {te to tl ti : TE} {tt : TT} {g g2 : TG} {K : PySem.W.Frag}
theorem dl_drop {α : Type} {f : V → α → Prop} : ∀ {vs : List V} {as : List α} (n : Nat), Dl f vs as → Dl f (vs.drop n) (as.drop n)
  | _, _, 0, h => h
  | _, _, n + 1, .nil => .nil
  | _, _, n + 1, .cons _ y => dl_drop n y
end
end G
set_option Elab.async false
set_option linter.all false
namespace G
open PySem
def inS (x : Int) (s : Stc) : Bool := decide (s.lo ≤ x) && decide (x ≤ s.hi)
/-- how many of the stretches have the level -/
def depS (ss : List Stc) (x : Int) : Int := ((ss.filter (inS x)).length : Int)
theorem inS_iff {x : Int} {s : Stc} : inS x s = true ↔ s.lo ≤ x ∧ x ≤ s.hi := by
  unfold inS
  rw [Bool.and_eq_true, decide_eq_true_iff, decide_eq_true_iff]
/-- what the shared levels are -/
def ShOk (ss : List Stc) (need : Int) (L : List (Int × Int)) : Prop := NF L ∧ ∀ x, memP x L ↔ need ≤ depS ss x
end G
set_option Elab.async false
set_option linter.all false
set_option maxRecDepth 100000
set_option maxHeartbeats 2000000
namespace G
open PySem PySem.Spec PyProof.Rows L2 StX
instance {α : Type} [Rep α] : PyTy (List α) "list" := ⟨fun ⟨p, vs, hv, s, _⟩ => by subst hv; exact .base (.lst s.2)⟩
instance {α β : Type} [Rep α] [Rep β] : PyTy (α × β) "tuple" := ⟨fun ⟨p, x, y, hv, s, _⟩ => by subst hv; exact .base (.tup s.2)⟩
section
variable {W : Wd} {Γ : Gam} {ta tb te : TE} {t : TS} {g : TG} {K : PySem.W.Frag}
/-- x in a list of ints -/
theorem inV_ints (x : Int) (as : List Int) : inV (V.int x) (as.map V.int) = decide (x ∈ as) := by
  have h : inV (V.int x) (as.map V.int) = as.any fun a => a == x := by
    unfold inV
    rw [List.any_map]
    rfl
  rw [h, Bool.eq_iff_iff, List.any_eq_true, decide_eq_true_iff]
  exact ⟨fun ⟨a, ha, e⟩ => by rw [← eq_of_beq e]; exact ha, fun hx => ⟨x, hx, beq_self_eq_true x⟩⟩
theorem flat_ints (as : List Int) : (as.map V.int).all flatV = true := by
  rw [List.all_eq_true]
  intro v hv
  obtain ⟨a, _, rfl⟩ := List.mem_map.mp hv
  rfl
theorem ev_inI {k : Bool → Prop} (hK : W.B.K = K) (h : EvK W ta Γ fun x : Int => EvK W tb Γ fun as : List Int => k (decide (x ∈ as))) : EvK W (tOp (rIn K false) ta tb) Γ k := by
  subst hK
  refine ev_two (h.imp fun x hx => hx.imp fun as z v u H Q o dx ⟨p, vs, hu, hp, hd⟩ c => ?_)
  have dx' : v = V.int x := dx
  subst dx' hu
  have e := Dl.ints hd
  refine ⟨p, vs, rfl, .inl hp.sq, rfl, by rw [e]; exact flat_ints as, c _ H _ (Ext.refl o) ?_ z⟩
  show V.bl (inV (V.int x) vs) = _
  rw [e, inV_ints]
theorem ev_notInI {k : Bool → Prop} (hK : W.B.K = K) (h : EvK W ta Γ fun x : Int => EvK W tb Γ fun as : List Int => k (!decide (x ∈ as))) : EvK W (tOp (rIn K true) ta tb) Γ k := by
  subst hK
  refine ev_two (h.imp fun x hx => hx.imp fun as z v u H Q o dx ⟨p, vs, hu, hp, hd⟩ c => ?_)
  have dx' : v = V.int x := dx
  subst dx' hu
  have e := Dl.ints hd
  refine ⟨p, vs, rfl, .inl hp.sq, rfl, by rw [e]; exact flat_ints as, c _ H _ (Ext.refl o) ?_ z⟩
  show V.bl (!inV (V.int x) vs) = _
  rw [e, inV_ints]
end
end G
set_option Elab.async false
set_option linter.all false
set_option maxRecDepth 100000
set_option maxHeartbeats 2000000
namespace G
open PySem PySem.Spec PyProof.Rows L2 StX
section
variable {W : Wd} {Γ : Gam} {ta tb te : TE} {K : PySem.W.Frag}
/-- the third item of three -/
theorem ev_ixT3c {α β γ : Type} {rα : Rep α} {rβ : Rep β} {rγ : Rep γ} {k : γ → Prop} (hK : W.B.K = K) (h : EvK W ta Γ fun p : T3 α β γ => k p.c) : EvK W (tOp (rIxT K) ta (tC (.int 2))) Γ k := by
  subst hK
  refine fun σ H Q E c => h σ H _ E fun v H1 a e1 ⟨p, x, y, z, hv, s, d1, d2, d3⟩ q => ?_
  exact ⟨p, _, 2, z, hv, rfl, s.sq, rfl, c _ H1 _ e1 d3 q⟩
end
/-- m is the greatest depth -/
def MaxD (ss : List Stc) (m : Int) : Prop := 1 ≤ m ∧ (∃ x, depS ss x = m) ∧ ∀ x, depS ss x ≤ m
theorem MaxD.uniq {ss : List Stc} {m n : Int} (h : MaxD ss m) (g : MaxD ss n) : m = n := by
  obtain ⟨x, hx⟩ := h.2.1
  obtain ⟨y, hy⟩ := g.2.1
  have := h.2.2 y
  have := g.2.2 x
  omega
end G
set_option Elab.async false
set_option linter.all false
set_option maxRecDepth 100000
set_option maxHeartbeats 2000000
namespace G
open PySem PySem.Spec PyProof.Rows L2 StX
end G
set_option Elab.async false
set_option linter.all false
set_option maxRecDepth 100000
set_option maxHeartbeats 2000000
namespace G
open PySem PySem.Spec PyProof.Rows L2 StX
/-- a world where nothing changes, of any heap -/
def Wd.free (B : Bs) : Wd where
  B := B
  mu := fun _ => False
  box := fun _ => False
  ok := fun _ => True
  live := fun _ _ _ h => h.elim
  st := fun _ _ _ _ _ => trivial
  wish := fun _ => True
  wst := fun _ _ _ _ _ => trivial
  hasbox := fun _ _ _ h => h.elim
  boxset := fun _ _ _ _ _ _ _ _ _ _ h => h.elim
  boxmu := fun _ h => h.elim
  oke := fun _ _ _ _ => trivial
end G
set_option Elab.async false
set_option linter.all false
set_option maxRecDepth 100000
set_option maxHeartbeats 2000000
namespace G
open PySem PySem.Spec PyProof.Rows L2 StX
instance : HasTy Lvs fun B => .ref (B.cl .Levels) := ⟨fun ⟨a, dx, y, hv, m, h, _⟩ => by subst hv; exact .ins h⟩
end G
namespace G
open PySem
end G
namespace G
end G
set_option Elab.async false
set_option linter.all false
set_option maxRecDepth 100000
set_option maxHeartbeats 2000000
namespace G
open PySem PySem.Spec PyProof.Rows L2 StX
end G
set_option Elab.async false
set_option linter.all false
set_option maxRecDepth 100000
set_option maxHeartbeats 2000000
namespace G
open PySem PySem.Spec PyProof.Rows L2 StX
end G
namespace G
open PySem PySem.Spec PyProof.Rows L2 StX
end G
set_option Elab.async false
set_option linter.all false
set_option maxRecDepth 100000
set_option maxHeartbeats 2000000
namespace G
open PySem PySem.Spec PyProof.Rows L2 StX
def RngO (a : Addr) (lo hi : Int) : HO := .ext fun h => ∃ t u v, IsRange h a lo hi 1 t u v
structure Rg where
  lo : Int
  hi : Int
instance : Rep Rg := ⟨fun W H v r => ∃ a, v = .ref a ∧ ¬ W.mu a ∧ H a = some (RngO a r.lo r.hi), fun e ⟨a, hv, m, h⟩ => ⟨a, hv, m, e _ _ m h⟩, fun D n ⟨a, hv, m, h⟩ => ⟨a, hv, mu_grow n m h, h⟩, fun D ⟨a, hv, m, h⟩ => ⟨a, hv, fun z => m (.inl z), h⟩⟩
end G
set_option Elab.async false
set_option linter.all false
set_option maxRecDepth 100000
set_option maxHeartbeats 2000000
namespace G
open PySem PySem.Spec PyProof.Rows L2 StX
end G
set_option Elab.async false
set_option linter.all false
set_option maxRecDepth 100000
set_option maxHeartbeats 2000000
namespace G
open PySem PySem.Spec PyProof.Rows L2 StX
abbrev Cls := Value × Nat × (Addr → Value → Option Addr → TS)
def wNam (K : PySem.W.Frag) (Wout : WX) (D : Ends) : List Cls → WX
  | [] => Wout
  | (c, i, ts) :: r => wAs K c i ts (wNam K Wout D r) D
inductive HdsN (X : Cx) : List ExceptHandler → List Cls → Prop
  | nil : HdsN X [] []
  | cons {y n : Str} {c : Value} {i : Nat} {ts : Addr → Value → Option Addr → TS} {st : Stmt} {sts : List Stmt} {np p2 : Pos} {hds : List ExceptHandler} {l : List Cls} (hi : X.N[i]? = some n) (hln : X.env.kindOf n = some .local) (hc : Names X y c)
      (hsu : ∀ (a : Addr) (o : Obj) (cls : Value) (d : Option Addr) (pn : List (Addr × Obj)), Zc cls d o → (∃ vs, o.data = .fields vs) → PSs (X.suite a ((a, o) :: pn)) (st :: sts) (ts a cls d)) (r : HdsN X hds l) :
      HdsN X (.ExceptHandler (some (.Name y np)) (some n) (st :: sts) p2 :: hds) ((c, i, ts) :: l)
section
variable {X : Cx} {body : List Stmt} {h0 : ExceptHandler} {hds : List ExceptHandler} {l : List Cls} {pos : Pos} {tb : WX → TS} {Wout : WX}
theorem ps_tryN (hs : X.stack = X.env :: X.outer) (hf : X.env.frame = some X.env.locals) (hN : X.N.Nodup) (tk : Takes X Wout)
    (hb : ∀ (W : WX) (pn : List (Addr × Obj)) (xe : Value → Shared → Prop), Takes (X.tr pn xe) W → PassesOwn (model X.prog X.w) X.A X.env xe → PSs (X.tr pn xe) body (tb W))
    (hh : HdsN X (h0 :: hds) l) : PS X (.Try body (h0 :: hds) [] [] pos) (fun D σ H => tb (wNam X.K Wout D l) D σ H) := by
  refine ⟨fun pins s σ H D I h => ?_⟩
  have k0 := I.ok
  have fr0 : X.A.frames = some (X.env :: X.outer) := (hs ▸ k0.frames)
  let after : Value → Shared → Prop := fun e z => wpAny (model X.prog X.w) X.A (noteFrame e X.env) (fun _ z2 => wpAny (model X.prog X.w) X.A (setFlight e none) (fun _ z3 => wpAny (model X.prog X.w) X.A (handleBy e X.env (h0 :: hds)) (SP X pins D) X.xe z3) X.xe z2) X.xe z
  refine wpAny_Try_except (wpAny_mono ((hb (wNam X.K Wout D l) (X.pn ++ pins) after (fun u z xx => ?_) PassesOwn.looking).run [] s σ H D (I.toTry _) h) (fun f z hz => ?_) fun _ _ y => y)
  · obtain ⟨a, B, sI, qins, σa, Ha, cls, d, rfl, Ja, nb, up, sk, na, os, ag, wish⟩ := xx
    have J := Ja.ofTry k0
    have sk2 : Sky B (X.env :: X.outer) a (Zc cls d) X.env.locals z.heap := hs ▸ sk
    show wpAny _ X.A (noteFrame (.ref a) X.env) _ _ z
    refine Sky.land Zc.steady fr0 hf sk2 fun hp fl upp => ?_
    have JL : L2.Inv X pins σa Ha { z with heap := hp } := J.landed nb fl.1 (up.trans upp) os ag
    obtain ⟨oe, flds, look, zc, data⟩ := fl.there
    have outside : a ∉ frs (X.env :: X.outer) := fun hm => by
      obtain ⟨_, o2, look2, hne⟩ := fl.2.2.1.mem hm
      cases look.symm.trans look2
      exact hne _ data
    have notL : a ≠ X.env.locals := fun e => outside (List.mem_filterMap.mpr ⟨X.env, List.mem_cons_self, hf.trans (congrArg some e.symm)⟩)
    have notF : a ∉ X.fs := fun hm => by
      obtain ⟨v, hv, q⟩ := List.mem_filterMap.mp hm
      exact outside (List.mem_filterMap.mpr ⟨v, List.mem_cons_of_mem _ hv, q⟩)
    have SL := JL.suite look data na notL notF
    have run : ∀ {gs : List ExceptHandler} {m : List Cls}, HdsN X gs m → wNam X.K Wout D m cls d σa Ha → wpAny (model X.prog X.w) X.A (handleBy (.ref a) X.env gs) (SP X pins D) X.xe { z with heap := hp } := by
      intro gs m hk
      induction hk with
      | nil =>
        intro w
        obtain ⟨_, _, _, o3, vs3, tb3, ob3, tk3, look3, _, data3, at3, _⟩ := id fl
        have fin : wpAny (model X.prog X.w) X.A (setFlight (.ref a) X.env.frame) (fun _ z4 => wpAny (model X.prog X.w) X.A (throw (.ref a) : Sem Flow) (SP X pins D) X.xe z4) X.xe { z with heap := hp } := by
          rw [hf]
          exact HandSPX.setFlight_upZ fl fun h4 in4 up4 => wpAny_throw (tk _ _ ⟨a, B, sI, pins, σa, Ha, cls, d, rfl, J, nb, (up.trans upp).trans up4, .inr (.inr (hs.symm ▸ in4)), na, os, ag, w⟩)
        refine wpAny_handleBy_nil ?_
        unfold PySem.passOn
        refine wpAny_bind (wpAny_field look3 data3 at3 ?_)
        rw [if_neg (by simp : ¬ ((Value.ref tb3 == Value.none) = true))]
        first | exact wpAny_bind fin | exact wpAny_bind (wpAny_pure (wpAny_bind fin))
      | @cons y n c i ts st sts np p2 gs2 m2 hi hln hc hsu r ih =>
        rintro ⟨b, isit, yes, no⟩
        refine wpAny_handleBy_cons (codeAny_handlers_test ?_) (fun q => nomatch q)
        have LM := PySem.W.exm_one (M := model X.prog X.w) JL.kIn (fun A Q E z k q => wpAny_typeOf_ref (k _ _ look) (zc.1 ▸ q)) isit
        have name : ∀ {Q E : Value → Shared → Prop}, Q c { z with heap := hp } → wpAny (model X.prog X.w) (X.A.mark (some (.ref a))) (eval (.Name y np) X.env) Q E { z with heap := hp } := fun q => by
          rcases hc with ⟨g1, g2, g3 | ⟨g3, g4, g5⟩⟩
          · exact ld_glob (X := X.suite a ((a, oe) :: (X.pn ++ pins))) SL g1 g3 q g2
          · exact ld_blt (X := X.suite a ((a, oe) :: (X.pn ++ pins))) SL g1 g3 g4 q g5 g2
        refine name (LM.here ?_)
        cases b with
        | false => exact ih (no rfl)
        | true =>
          refine codeAny_handlers_suite_as (HandSPX.lands_againZ fl fun h5 fl5 up5 => ?_)
          obtain ⟨o5, vs5, look5, zc5, data5⟩ := fl5.there
          have J5 : L2.Inv X pins σa Ha { z with heap := h5 } := J.landed nb fl5.1 ((up.trans upp).trans up5) os ag
          refine store_ok (X := X.suite a ((a, o5) :: (X.pn ++ pins))) (v := .ref a) (J5.suite look5 data5 na notL notF) hN hi (.inl hln) rfl (fun z6 S6 => ?_) (.inr hln)
          refine wpAny_mono ((hsu a o5 cls d (X.pn ++ pins) zc5 ⟨_, data5⟩).run [] z6 _ Ha _ S6 (yes rfl a na)) (fun f z7 hz7 => ?_) fun _ _ q => q.elim
          have off : ∀ {σ7 : L2.St} {H7 : Hp} {Q : Shared → Prop}, L2.Inv (X.suite a ((a, o5) :: (X.pn ++ pins))) [] σ7 H7 z7 → (∀ z8, L2.Inv X pins (σ7.set i none) H7 z8 → Q z8) →
              wpAny (model X.prog X.w) X.A (do bindName X.env n .none; unbindBehindTheSuite X.env n p2) (fun _ z8 => Q z8) X.xe z7 := fun S7 q => gone_ok (S7.unsuite k0) hN hi hln q
          cases f with
          | ret u => obtain ⟨v7, σ7, H7, S7, r7, q7⟩ := hz7; exact off S7 fun _ K8 => ⟨_, _, _, K8, r7, q7⟩
          | next => obtain ⟨σ7, H7, S7, q7⟩ := hz7; exact off S7 fun _ K8 => ⟨_, _, K8, q7⟩
          | brk => obtain ⟨σ7, H7, S7, q7⟩ := hz7; exact off S7 fun _ K8 => ⟨_, _, K8, q7⟩
          | cont => obtain ⟨σ7, H7, S7, q7⟩ := hz7; exact off S7 fun _ K8 => ⟨_, _, K8, q7⟩
    exact run hh wish
  · cases f with
    | ret u => obtain ⟨v, σb, Hb, Jb, rb, qb⟩ := hz; exact ⟨v, σb, Hb, Jb.ofTry k0, rb, qb⟩
    | next => obtain ⟨σb, Hb, Jb, qb⟩ := hz; exact wpAny_execs_nil ⟨σb, Hb, Jb.ofTry k0, qb⟩
    | brk => obtain ⟨σb, Hb, Jb, qb⟩ := hz; exact ⟨σb, Hb, Jb.ofTry k0, qb⟩
    | cont => obtain ⟨σb, Hb, Jb, qb⟩ := hz; exact ⟨σb, Hb, Jb.ofTry k0, qb⟩
end
end G
namespace G
open PySem PySem.Spec PyProof.Rows L2 StX
section
variable {W : Wd} {Γ : Gam} {R : Po} {K : PySem.W.Frag}
/-- what stands behind a clause whose name stands in slot i -/
def unN (R : Po) (i : Nat) : Po := { nx := fun Γ' => R.nx (Γ'.set i none), rt := R.rt, bk := fun Γ' => R.bk (Γ'.set i none), ct := fun Γ' => R.ct (Γ'.set i none) }
/-- a clause takes errors of this kind, and what it does is right -/
def CaughtN (K : PySem.W.Frag) (W : Wd) (Γ : Gam) (R : Po) (n : Xn) : List Cls → Prop
  | [] => False
  | (c, i, ts) :: r => (PySem.W.exmOne K (.ref (W.B.cl n.c)) c = some true ∧ ∀ a d, Sx W (ts a (.ref (W.B.cl n.c)) d) (Γ.set i (some (T (Er.mk a d n)))) (unN R i)) ∨ (PySem.W.exmOne K (.ref (W.B.cl n.c)) c = some false ∧ CaughtN K W Γ R n r)
theorem caughtN_run {Wout : WX} {D : Ends} {H2 : Hp} {σ : L2.St} {n : Xn} {d : Option Addr} (G2 : GOk W H2 σ Γ) (O : EOk W H2 D R) (xd : xden W.toWc H2 d n.fs) : ∀ {l : List Cls}, CaughtN K W Γ R n l → wNam K Wout D l (.ref (W.B.cl n.c)) d σ H2
  | [], h => h.elim
  | (c, i, ts) :: r, .inl ⟨h1, h2⟩ => ⟨true, h1, fun _ a ha => h2 a d _ _ H2 (G2.set i (t := T (Er.mk a d n)) ⟨rfl, xd⟩) ⟨fun σ' H' Γ' e' G' q => O.nx _ H' _ e' (G'.unset i) q, fun v H' t e' dv q => O.rt v H' t e' dv q, fun σ' H' Γ' e' G' q => O.bk _ H' _ e' (G'.unset i) q, fun σ' H' Γ' e' G' q => O.ct _ H' _ e' (G'.unset i) q⟩, fun q => Bool.noConfusion q⟩
  | (c, i, ts) :: r, .inr ⟨h1, h2⟩ => ⟨false, h1, fun q => Bool.noConfusion q, fun _ => caughtN_run G2 O xd h2⟩
theorem sx_tryN {l : List Cls} {tb : WX → TS} {Wout : WX} (x : Xn → Prop)
    (hb : ∀ (W' : Wd) (Wx : WX), W'.B = W.B → HX W' Γ (WE Wx) x → Sx W' (tb Wx) Γ R) (hs : ∀ n, x n → CaughtN K W Γ R n l) :
    Sx W (fun D σ H => tb (wNam K Wout D l) D σ H) Γ R := fun D σ H G O => by
  have key : ∀ σ n d H2, Ext W H H2 → GOk W H2 σ Γ → xden W.toWc H2 d n.fs → x n → WE (wNam K Wout D l) σ (.ref (W.B.cl n.c)) d H2 := fun σ n d H2 e G2 xd xn => caughtN_run G2 (O.ext e) xd (hs n xn)
  refine hb (W.tr Γ (WE (wNam K Wout D l)) x) _ rfl (fun σ' H' G' n d H2 e xd xn => ?_) D σ H ⟨G.ok, ⟨G.wish, key⟩, G.at_, G.len⟩ ⟨fun σ' H' Γ' e' G' q => O.nx σ' H' Γ' e'.untr G'.untr q, fun v H' t e' dv q => O.rt v H' t e'.untr dv q, fun σ' H' Γ' e' G' q => O.bk σ' H' Γ' e'.untr G'.untr q, fun σ' H' Γ' e' G' q => O.ct σ' H' Γ' e'.untr G'.untr q⟩
  exact G'.wish.2 σ' n d H2 e.untr (G'.untr.ext e.untr) xd xn
end
end G
namespace G
open PySem PySem.Spec PyProof.Rows L2 StX
end G
set_option Elab.async false
set_option linter.all false
set_option maxRecDepth 100000
set_option maxHeartbeats 2000000
namespace G
open PySem PySem.Spec PyProof.Rows L2 StX
structure Li2 (α β : Type) where
  a : α
  b : β
  deriving DecidableEq
structure Li3 (α β γ : Type) where
  a : α
  b : β
  c : γ
  deriving DecidableEq
instance {α β : Type} [Rep α] [Rep β] : Rep (Li2 α β) :=
  ⟨fun W H v t => ∃ p x y, v = .ref p ∧ Lq W H p [x, y] ∧ den W H x t.a ∧ den W H y t.b,
   fun e ⟨p, x, y, hv, s, h1, h2⟩ => ⟨p, x, y, hv, s.mono e, Rep.mono e h1, Rep.mono e h2⟩,
   fun D n ⟨p, x, y, hv, s, h1, h2⟩ => ⟨p, x, y, hv, s.grow D n, Rep.grow D n h1, Rep.grow D n h2⟩,
   fun D ⟨p, x, y, hv, s, h1, h2⟩ => ⟨p, x, y, hv, s.shrink D, Rep.shrink D h1, Rep.shrink D h2⟩⟩
instance {α β γ : Type} [Rep α] [Rep β] [Rep γ] : Rep (Li3 α β γ) :=
  ⟨fun W H v t => ∃ p x y z, v = .ref p ∧ Lq W H p [x, y, z] ∧ den W H x t.a ∧ den W H y t.b ∧ den W H z t.c,
   fun e ⟨p, x, y, z, hv, s, h1, h2, h3⟩ => ⟨p, x, y, z, hv, s.mono e, Rep.mono e h1, Rep.mono e h2, Rep.mono e h3⟩,
   fun D n ⟨p, x, y, z, hv, s, h1, h2, h3⟩ => ⟨p, x, y, z, hv, s.grow D n, Rep.grow D n h1, Rep.grow D n h2, Rep.grow D n h3⟩,
   fun D ⟨p, x, y, z, hv, s, h1, h2, h3⟩ => ⟨p, x, y, z, hv, s.shrink D, Rep.shrink D h1, Rep.shrink D h2, Rep.shrink D h3⟩⟩
theorem eqvL2 (a b c d : PyData) : PyData.eqv (.list [a, b]) (.list [c, d]) = (PyData.eqv a c && PyData.eqv b d) := by
  show (PyData.eqv a c && (PyData.eqv b d && true)) = _
  rw [Bool.and_true]
theorem eqvL3 (a b c d e f : PyData) : PyData.eqv (.list [a, b, e]) (.list [c, d, f]) = (PyData.eqv a c && (PyData.eqv b d && PyData.eqv e f)) := by
  show (PyData.eqv a c && (PyData.eqv b d && (PyData.eqv e f && true))) = _
  rw [Bool.and_true]
instance {α β : Type} [Rep α] [Rep β] [Dat α] [Dat β] : Dat (Li2 α β) where
  toD := fun x => .list [Dat.toD x.a, Dat.toD x.b]
  dp := fun ⟨p, x, y, hv, s, h1, h2⟩ => by
    subst hv
    exact .lst s.sq (.cons (Dat.dp h1) (.cons (Dat.dp h2) .nil))
  dep := max (Dat.dep α) (Dat.dep β) + 1
  ddep := fun x => by
    have h1 := Dat.ddep x.a
    have h2 := Dat.ddep x.b
    show max (Dat.toD x.a).depth (max (Dat.toD x.b).depth 0) + 1 ≤ _
    omega
  inj := fun x y => by
    rw [eqvL2, Bool.and_eq_true, Dat.inj, Dat.inj]
    cases x; cases y
    exact ⟨fun h => by obtain ⟨h1, h2⟩ := h; cases h1; cases h2; rfl, fun h => by cases h; exact ⟨rfl, rfl⟩⟩
  good := fun x => Dat.good x.a ∧ Dat.good x.b
  gshp := fun x h => by
    have h1 := Dat.gshp _ h.1
    have h2 := Dat.gshp _ h.2
    show ((Dat.toD x.a).canLay0 && ((Dat.toD x.b).canLay0 && true)) = true
    rw [h1, h2]
    rfl
instance {α β γ : Type} [Rep α] [Rep β] [Rep γ] [Dat α] [Dat β] [Dat γ] : Dat (Li3 α β γ) where
  toD := fun x => .list [Dat.toD x.a, Dat.toD x.b, Dat.toD x.c]
  dp := fun ⟨p, x, y, z, hv, s, h1, h2, h3⟩ => by
    subst hv
    exact .lst s.sq (.cons (Dat.dp h1) (.cons (Dat.dp h2) (.cons (Dat.dp h3) .nil)))
  dep := max (Dat.dep α) (max (Dat.dep β) (Dat.dep γ)) + 1
  ddep := fun x => by
    have h1 := Dat.ddep x.a
    have h2 := Dat.ddep x.b
    have h3 := Dat.ddep x.c
    show max (Dat.toD x.a).depth (max (Dat.toD x.b).depth (max (Dat.toD x.c).depth 0)) + 1 ≤ _
    omega
  inj := fun x y => by
    rw [eqvL3, Bool.and_eq_true, Bool.and_eq_true, Dat.inj, Dat.inj, Dat.inj]
    cases x; cases y
    exact ⟨fun h => by obtain ⟨h1, h2, h3⟩ := h; cases h1; cases h2; cases h3; rfl, fun h => by cases h; exact ⟨rfl, rfl, rfl⟩⟩
  good := fun x => Dat.good x.a ∧ Dat.good x.b ∧ Dat.good x.c
  gshp := fun x h => by
    have h1 := Dat.gshp _ h.1
    have h2 := Dat.gshp _ h.2.1
    have h3 := Dat.gshp _ h.2.2
    show ((Dat.toD x.a).canLay0 && ((Dat.toD x.b).canLay0 && ((Dat.toD x.c).canLay0 && true))) = true
    rw [h1, h2, h3]
    rfl
section
variable {W : Wd} {Γ : Gam} {ta tb tc : TE}
theorem ev_lst2 {α β : Type} {rα : Rep α} {rβ : Rep β} {k : Li2 α β → Prop} (h : EvK W ta Γ fun a : α => EvK W tb Γ fun b : β => k ⟨a, b⟩) : EvK W (tLst (tCons ta (tCons tb tNil))) Γ k := fun σ H Q E c =>
  h σ H _ E fun x H1 a e1 d1 h1 => h1 σ H1 _ (E.ext e1) fun y H2 b e2 d2 z => ⟨by show 2 ≤ sizeLine; decide, fun p hp =>
    have e3 := Ext.new (o := .lst [x, y]) e2.ok hp
    c _ _ ⟨a, b⟩ ((e1.trans e2).trans e3) ⟨p, x, y, rfl, Lq.new (fresh_mu e2.ok hp) upd_same, Rep.mono (e2.trans e3).keep d1, Rep.mono e3.keep d2⟩ z⟩
theorem ev_lst3 {α β γ : Type} {rα : Rep α} {rβ : Rep β} {rγ : Rep γ} {k : Li3 α β γ → Prop} (h : EvK W ta Γ fun a : α => EvK W tb Γ fun b : β => EvK W tc Γ fun c : γ => k ⟨a, b, c⟩) :
    EvK W (tLst (tCons ta (tCons tb (tCons tc tNil)))) Γ k := fun σ H Q E c =>
  h σ H _ E fun x H1 a e1 d1 h1 => h1 σ H1 _ (E.ext e1) fun y H2 b e2 d2 h2 => h2 σ H2 _ ((E.ext e1).ext e2) fun u H3 b3 e3 d3 z => ⟨by show 3 ≤ sizeLine; decide, fun p hp =>
    have e4 := Ext.new (o := .lst [x, y, u]) e3.ok hp
    c _ _ ⟨a, b, b3⟩ (((e1.trans e2).trans e3).trans e4) ⟨p, x, y, u, rfl, Lq.new (fresh_mu e3.ok hp) upd_same, Rep.mono ((e2.trans e3).trans e4).keep d1, Rep.mono (e3.trans e4).keep d2, Rep.mono e4.keep d3⟩ z⟩
end
theorem EvT.imp {W : Wd} {Γ : Gam} {tt : TT} {k k' : Bool → Prop} (h : EvT W tt Γ k) (i : ∀ b, k b → k' b) : EvT W tt Γ k' := fun σ H Q E q => h σ H Q E fun H' b e z => q H' b e (i b z)
def tTryNK (K : PySem.W.Frag) (l : List Cls) (tb : WX → TS) (Wout : WX) : TS := fun D σ H => tb (wNam K Wout D l) D σ H
theorem ps_tryNK {X : Cx} {body : List Stmt} {h0 : ExceptHandler} {hds : List ExceptHandler} {l : List Cls} {pos : Pos} {tb : WX → TS} {Wout : WX} (K : PySem.W.Frag) (hs : X.stack = X.env :: X.outer) (hf : X.env.frame = some X.env.locals) (hN : X.N.Nodup) (tk : Takes X Wout)
    (hb : ∀ (W : WX) (pn : List (Addr × Obj)) (xe : Value → Shared → Prop), Takes (X.tr pn xe) W → PassesOwn (model X.prog X.w) X.A X.env xe → PSs (X.tr pn xe) body (tb W))
    (hh : HdsN X (h0 :: hds) l) (hK : X.K = K := by rfl) : PS X (.Try body (h0 :: hds) [] [] pos) (tTryNK K l tb Wout) := by subst hK; exact ps_tryN hs hf hN tk hb hh
theorem sx_tryNK {W : Wd} {Γ : Gam} {R : Po} {K : PySem.W.Frag} {l : List Cls} {tb : WX → TS} {Wout : WX} (x : Xn → Prop)
    (hb : ∀ (W' : Wd) (Wx : WX), W'.B = W.B → HX W' Γ (WE Wx) x → Sx W' (tb Wx) Γ R) (hs : ∀ n, x n → CaughtN K W Γ R n l) : Sx W (tTryNK K l tb Wout) Γ R := sx_tryN x hb hs
theorem exm_ofB {K : PySem.W.Frag} {E S : Addr} {b : Bool} (h1 : PySem.W.subIn K (.ref S) (.type "BaseException") = some true) (h2 : PySem.W.isClsIn K S = true) (h3 : PySem.W.typeIn K (.ref S) = some (.type "type")) (h4 : PySem.W.subIn K (.ref E) (.ref S) = some b) :
    PySem.W.exmOne K (.ref E) (.ref S) = some b := by
  have e1 : (PySem.W.subIn K (.ref S) (.type "BaseException") == some true) = true := by rw [h1] <;> rfl
  have e2 : ((PySem.W.clsIn K S).isSome && PySem.W.typeIn K (.ref S) == some (.type "type")) = true := by
    have h2' : (PySem.W.clsIn K S).isSome = true := h2
    rw [h2', h3] <;> rfl
  show (if (PySem.W.subIn K (.ref S) (.type "BaseException") == some true) = true then (if ((PySem.W.clsIn K S).isSome && PySem.W.typeIn K (.ref S) == some (.type "type")) = true then PySem.W.subIn K (.ref E) (.ref S) else none) else none) = some b
  rw [if_pos e1, if_pos e2]
  exact h4
theorem exm_atB {K : PySem.W.Frag} {W : Wd} {B : Bs} {c : Cn} {S C : Addr} {b : Bool} (h : W.B = B) (hc : B.cl c = C) (t : PySem.W.exmOne K (.ref C) (.ref S) = some b) : PySem.W.exmOne K (.ref (W.B.cl c)) (.ref S) = some b := by rw [h, hc]; exact t
end G
set_option Elab.async false
set_option linter.all false
set_option maxRecDepth 100000
set_option maxHeartbeats 2000000
namespace G
open PySem PySem.Spec PyProof.Rows L2 StX
def rBoolO (C : Addr) (sp : Sp) (E : XK) : List V → Hp → VK → Prop := fun xs H Q => ∃ a dx fs, xs = [.ref a] ∧ H a = some (.ins C dx fs) ∧ sp [.ref a] H (fun v H' => ∃ b, v = .bl b ∧ Q (.bl b) H') E
def rIxO (C : Addr) (sp : Sp) (E : XK) : R2 := fun x y H Q => ∃ a dx fs, x = .ref a ∧ H a = some (.ins C dx fs) ∧ sp [x, y] H Q E
end G
namespace G
open PySem PySem.Spec PyProof.Rows L2 StX
section
variable {W : Wd} {Γ : Gam} {ta : TA} {te tb to tl : TE} {B : Bs} {P : PT} {E : XK} {x : Xn → Prop} {C C2 : Addr} {K : PySem.W.Frag}
theorem ev_boolO {β : Type} {rβ : Rep β} {k : Bool → Prop} (hB : W.B = B) (h : EvK W te Γ fun s : β => OwnG β B C (P (fun t => ∃ y : Bool, t = T y ∧ k y) (fun _ => False) [T s])) : EvK W (tCB (rBoolO C (spG B P) E) (tCons te tNil)) Γ k := by
  subst hB
  refine fun σ H Q G c => h σ H _ G fun v H1 s e1 d ⟨cc, fl, iβ, hC, z⟩ => ?_
  subst hC
  obtain ⟨p, dp, fs, hv, _, hH, _⟩ := iβ.at_ d
  exact ⟨p, dp, fs, by rw [hv], hH, W, _, _, _, rfl, e1.ok, .cons (t := T s) (by rw [← hv]; exact d) .nil, z, fun v H3 t e3 dt ⟨a, ea, q⟩ => by
    subst ea
    exact ⟨a, dt, c _ H3 a (e1.trans e3) rfl q⟩, fun n d2 H2 _ _ q => q.elim⟩
theorem ev_ixO {α β γ : Type} {rα : Rep α} {rβ : Rep β} {rγ : Rep γ} {k : α → Prop} (hB : W.B = B) (h : EvK W te Γ fun s : β => EvK W tb Γ fun y : γ => OwnG β B C (P (fun t => ∃ a : α, t = T a ∧ k a) (fun _ => False) [T s, T y])) : EvK W (tOp (rIxO C (spG B P) E) te tb) Γ k := by
  subst hB
  refine ev_two (h.imp fun s hs => hs.imp fun y ⟨c, fl, iβ, hC, hp⟩ x z H Q o dx dz q => ?_)
  subst hC
  obtain ⟨p, dp, fs, hv, _, hH, _⟩ := iβ.at_ dx
  exact ⟨p, dp, fs, hv, hH, W, _, _, _, rfl, o, .cons (t := T s) dx (.cons (t := T y) dz .nil), hp, fun v H2 t e2 dt ⟨b, eb, kb⟩ => by
    subst eb
    exact q v H2 b e2 dt kb, fun n d2 H2 _ _ z => z.elim⟩
theorem Dl.reverse {α : Type} {f : V → α → Prop} {vs : List V} {as : List α} (h : Dl f vs as) : Dl f vs.reverse as.reverse := by
  induction h with
  | nil => exact .nil
  | cons x _ ih =>
    rw [List.reverse_cons, List.reverse_cons]
    exact ih.append (.cons x .nil)
theorem dl_take {α : Type} {f : V → α → Prop} : ∀ {vs : List V} {as : List α} (n : Nat), Dl f vs as → Dl f (vs.take n) (as.take n)
  | _, _, 0, _ => .nil
  | _, _, _ + 1, .nil => .nil
  | _, _, n + 1, .cons x y => .cons x (dl_take n y)
theorem cutV_to (xs : List V) (n : Nat) : cutV xs none (some (n : Int)) = xs.take n := by
  unfold cutV
  have e1 : HT.sIx xs.length 0 none = 0 := rfl
  have e2 : HT.sIx xs.length xs.length (some (n : Int)) = min n xs.length := by
    show (if (n : Int) < 0 then ((n : Int) + xs.length).toNat else min (n : Int).toNat xs.length) = _
    rw [if_neg (by omega), Int.toNat_natCast]
  rw [e1, e2, List.drop_zero, Nat.sub_zero]
  by_cases h : n ≤ xs.length
  · rw [Nat.min_eq_left h]
  · rw [Nat.min_eq_right (by omega), List.take_length, List.take_of_length_le (by omega)]
/-- xs[:n] -/
theorem ev_upto {α : Type} {rα : Rep α} {k : List α → Prop} (hK : W.B.K = K) (h : EvK W te Γ fun as : List α => EvK W tb Γ fun n : Int => 0 ≤ n ∧ k (as.take n.toNat)) : EvK W (tSl (rSlL K) te tNoPart (tPart tb)) Γ k := by
  subst hK
  refine fun σ H Q G c => h σ H _ G fun v H1 as e1 d1 h1 => ?_
  refine h1 σ H1 _ (G.ext e1) fun u H2 n e2 d2 ⟨hn, z⟩ => ?_
  obtain ⟨p, vs, hv, hp, hd⟩ := Rep.mono (W := W.toWc) (a := as) e2.keep d1
  refine ⟨n, d2, p, vs, hv, hp.sq, fun q hq => ?_⟩
  obtain ⟨m, rfl⟩ : ∃ m : Nat, n = m := ⟨n.toNat, by omega⟩
  rw [cutV_to]
  rw [Int.toNat_natCast] at z
  have e3 := Ext.new (o := .lst (vs.take m)) e2.ok hq
  exact c (.ref q) _ _ ((e1.trans e2).trans e3) ⟨q, _, rfl, Lq.new (fresh_mu e2.ok hq) upd_same, (dl_take m hd).imp fun _ _ d => Rep.mono e3.keep d⟩ z
theorem Dl.strs {vs : List V} {as : List Str} (h : Dl (fun v (a : Str) => v = .str a) vs as) : vs = as.map V.str := by
  induction h with
  | nil => rfl
  | cons x _ ih => rw [x, ih]; rfl
end
abbrev PF (β : Type) := (List β → Prop) → List Ty → Prop
/-- the answer is a list that was not there before the call -/
def spFr {β : Type} [Rep β] (B : Bs) (P : PF β) : Sp := fun vs H Q _ => ∃ (W : Wd) (ts : List Ty) (k : List β → Prop), W.B = B ∧ W.ok H ∧ W.wish H ∧ DT W H vs ts ∧ P k ts ∧
  ∀ p H' ws (bs : List β), H p = none → Ext W H H' → H' p = some (.lst ws) → Dl (den (W.toWc.plus p) H') ws bs → k bs → Q (.ref p) H'
section
variable {W : Wd} {Γ : Gam} {ta : TA} {te tb to tl : TE} {B : Bs} {β : Type} {rβ : Rep β} {P : PF β} {E : L2.St → XK} {C : Addr}
theorem evF_methFr {α : Type} {rα : Rep α} {m : Str} {k : List β → Prop} (hB : W.B = B) (h : EvK W to Γ fun s : α => OwnM α B C m (EvA W ta Γ fun ts => P k (T s :: ts))) : EvF W (tMethZ C m (spFr B P) E to ta) Γ k := by
  subst hB
  refine fun σ H Q G c => h σ H _ G fun v H1 s e1 d ⟨cc, fl, iβ, hC, hm, z⟩ => ?_
  subst hC
  obtain ⟨p, dp, fs, hv, _, hH, hfl⟩ := iβ.at_ d
  refine ⟨p, dp, fs, hv, hH, look_none (by rw [hfl]; exact hm), ?_⟩
  refine z σ H1 _ (G.ext e1) fun vs H2 ts e2 d2 z2 => ?_
  have G2 := (G.ext e1).ext e2
  exact ⟨W, _, k, rfl, e2.ok, G2.wish, .cons (t := T s) (Rep.mono e2.keep d) d2, z2, fun q H3 ws bs hn e3 hq hd kk =>
    c q H3 ws bs (fresh_back e1.ok e1 (fresh_back e2.ok e2 hn)) ((e1.trans e2).trans e3) hq hd kk⟩
end
end G
set_option Elab.async false
set_option linter.all false
set_option maxRecDepth 100000
set_option maxHeartbeats 2000000
namespace G
open PySem PySem.Spec PyProof.Rows L2 StX
theorem lexLt2 (a b : Int × Int) : HT.lexLt [a.1, a.2] [b.1, b.2] = !lexLe b a := by
  rw [HT.lexLt.eq_4, HT.lexLt.eq_4, HT.lexLt.eq_1]
  rw [Bool.eq_iff_iff, Bool.not_eq_true', ← Bool.not_eq_true, lexLe_iff]
  by_cases h : a.1 = b.1
  · rw [if_pos h]
    by_cases h2 : a.2 = b.2
    · rw [if_pos h2]
      simp; omega
    · rw [if_neg h2, decide_eq_true_iff]; omega
  · rw [if_neg h, decide_eq_true_iff]; omega
/-- min of a list of pairs -/
def rMinP (K : PySem.W.Frag) : List V → Hp → VK → Prop := fun vs H Q => ∃ (a : Addr) (xs : List V) (ns : List (Int × Int)), vs = [.ref a] ∧ SqL K H a xs ∧ 0 < ns.length ∧ xs.length = ns.length ∧
  (∀ (i : Nat) (x : V) (n : Int × Int), xs[i]? = some x → ns[i]? = some n → ∃ t, x = .ref t ∧ SqT K H t [.int n.1, .int n.2]) ∧ ∀ (i : Nat) (x : V) (m : Int × Int), xs[i]? = some x → ns[i]? = some m → (∀ n ∈ ns, lexLe m n = true) → Q x H
section
variable {W : Wd} {Γ : Gam} {te : TE} {K : PySem.W.Frag}
theorem ev_minP {k : Int × Int → Prop} (hK : W.B.K = K) (h : EvK W te Γ fun as : List (Int × Int) => 0 < as.length ∧ ∀ m, m ∈ as → (∀ n ∈ as, lexLe m n = true) → k m) : EvK W (tCB (rMinP K) (tCons te tNil)) Γ k := by
  subst hK
  refine fun σ H Q G c => h σ H _ G fun v H1 as e1 ⟨p, vs, hv, hp, hd⟩ ⟨hl, z⟩ => ?_
  refine ⟨p, vs, as, by rw [hv], hp.sq, hl, hd.length, fun i x n hx hn => ?_, fun i x m hx hm hle => ?_⟩
  · obtain ⟨a, ha, da⟩ := hd.at hx
    rw [hn] at ha
    cases ha
    obtain ⟨t, y, u, hv2, s, h1, h2⟩ := da
    have h1' : y = V.int n.1 := h1
    have h2' : u = V.int n.2 := h2
    subst h1' h2'
    exact ⟨t, hv2, s.sq⟩
  · obtain ⟨a, ha, da⟩ := hd.at hx
    rw [hm] at ha
    cases ha
    exact c x H1 m e1 da (z m (List.mem_of_getElem? hm) hle)
/-- pairs compared -/
theorem ev_ltP {ta tb : TE} {k : Bool → Prop} (hK : W.B.K = K) (h : EvK W ta Γ fun a : Int × Int => EvK W tb Γ fun b : Int × Int => k (!lexLe b a)) : EvK W (tOp (rLtT K) ta tb) Γ k := by
  subst hK
  refine ev_two (h.imp fun a ha => ha.imp fun b hb x y H Q o dx dy c => ?_)
  obtain ⟨t, x1, x2, rfl, s, h1, h2⟩ := dx
  obtain ⟨t2, y1, y2, rfl, s2, g1, g2⟩ := dy
  have h1' : x1 = V.int a.1 := h1
  have h2' : x2 = V.int a.2 := h2
  have g1' : y1 = V.int b.1 := g1
  have g2' : y2 = V.int b.2 := g2
  subst h1' h2' g1' g2'
  exact ⟨t, t2, [a.1, a.2], [b.1, b.2], rfl, rfl, s.sq, s2.sq, c _ H _ (Ext.refl o) (by rw [lexLt2]; rfl) hb⟩
end
end G
set_option Elab.async false
set_option linter.all false
set_option maxRecDepth 100000
set_option maxHeartbeats 2000000
namespace G
open PySem PySem.Spec PyProof.Rows L2 StX
/-- errors that are no AttributeError -/
def NAt (K : PySem.W.Frag) (cls : Value) : Prop := ∃ C, cls = .ref C ∧ PySem.W.subIn K (.ref C) (.type "AttributeError") = some false
def tPropX (K : PySem.W.Frag) (C : Addr) (sp : Sp) (E : L2.St → XK) (ta : TE) : TE := fun σ H Q => ta σ H fun x H1 => ∃ a dx fs, x = .ref a ∧ H1 a = some (.ins C dx fs) ∧ sp [.ref a] H1 Q (fun cls d H' => NAt K cls ∧ E σ cls d H')
section
variable {W : Wd} {Γ : Gam} {te : TE} {B : Bs} {P : PT} {C : Addr} {E : L2.St → XK} {x : Xn → Prop} {K : PySem.W.Frag}
theorem ev_propX {α β : Type} {rα : Rep α} {rβ : Rep β} {k : α → Prop} (hB : W.B = B) (hx : HX W Γ E x)
    (h : EvK W te Γ fun s : β => OwnG β B C (P (fun t => ∃ a : α, t = T a ∧ k a) (fun n => NAt K (.ref (B.cl n.c)) ∧ x n) [T s])) : EvK W (tPropX K C (spG B P) E te) Γ k := by
  subst hB
  refine fun σ H Q G c => h σ H _ G fun v H1 s e1 d ⟨cc, fl, iβ, hC, z⟩ => ?_
  subst hC
  obtain ⟨p, dp, fs, hv, _, hH, _⟩ := iβ.at_ d
  refine ⟨p, dp, fs, hv, hH, W, _, _, _, rfl, e1.ok, .cons (t := T s) (by rw [← hv]; exact d) .nil, z, fun v H3 t e3 dt ⟨a, ea, q⟩ => by
    subst ea
    exact c v H3 a (e1.trans e3) dt q, fun n d2 H2 e2 xd ⟨hn, xn⟩ => ⟨hn, hx σ H1 (G.ext e1) n d2 H2 e2 xd xn⟩⟩
end
end G
namespace G
open PySem PySem.Spec PyProof.Rows L2 StX
end G
set_option Elab.async false
set_option linter.all false
set_option maxRecDepth 100000
set_option maxHeartbeats 2000000
namespace G
open PySem PySem.Spec PyProof.Rows L2 StX
end G
namespace G
open PySem PySem.Spec PyProof.Rows L2 StX
end G
set_option Elab.async false
set_option linter.all false
set_option maxRecDepth 100000
set_option maxHeartbeats 2000000
namespace G
open PySem PySem.Spec PyProof.Rows L2 StX
end G
namespace G
open PySem PySem.Spec PyProof.Rows L2 StX
end G
set_option Elab.async false
set_option linter.all false
set_option maxRecDepth 100000
set_option maxHeartbeats 2000000
namespace G
open PySem PySem.Spec PyProof.Rows L2 StX
/-- an address, whatever stands there -/
structure Rf where
  a : Addr
instance : Rep Rf := ⟨fun _ _ v r => v = .ref r.a, fun _ h => h, fun _ _ h => h, fun _ h => h⟩
instance : NoLst Rf := ⟨fun _ h => h⟩
end G
namespace G
open PySem PySem.Spec PyProof.Rows L2 StX
section
variable {W : Wd} {F : Hp} {L : Own} {Γ : Gam} {ta tb te to : TE} {tt : TT} {t u : TS} {R : PoM} {g : TG} {K : PySem.W.Frag}
theorem dl_of_at {α : Type} {f : V → α → Prop} : ∀ {vs : List V} {as : List α}, vs.length = as.length → (∀ (i : Nat) (v : V) (a : α), vs[i]? = some v → as[i]? = some a → f v a) → Dl f vs as
  | [], [], _, _ => .nil
  | [], _ :: _, h, _ => nomatch h
  | _ :: _, [], h, _ => nomatch h
  | v :: vs, a :: as, h, k => .cons (k 0 v a rfl rfl) (dl_of_at (by simpa using h) fun i w b h1 h2 => k (i + 1) w b (by simpa using h1) (by simpa using h2))
end
section
variable {X : Cx}
theorem call_list_ofK (K : PySem.W.Frag) (hK : X.K = K := by rfl) : CallR X (.type "list") fun xs H Q => ∃ p ys, xs = [V.ref p] ∧ (SqL K H p ys ∨ SqT K H p ys) ∧ ∀ l, H l = none → Q (V.ref l) (upd H l (HO.lst ys)) := by subst hK; exact call_list_of
end
end G
namespace G
open PySem PySem.Spec PyProof.Rows L2 StX
end G
set_option Elab.async false
set_option linter.all false
set_option maxRecDepth 100000
set_option maxHeartbeats 2000000
namespace G
open PySem PySem.Spec PyProof.Rows L2 StX
end G
set_option Elab.async false
set_option linter.all false
set_option maxRecDepth 100000
set_option maxHeartbeats 2000000
namespace G
open PySem PySem.Spec PyProof.Rows L2 StX
def revS (z : Str) : Str := ⟨z.cps.toList.reverse.toArray⟩
def tRevS (te : TE) : TE := fun σ H Q => te σ H fun x H1 => ∃ z, x = .str z ∧ z.length ≤ sizeLine ∧ Q (.str (revS z)) H1
theorem rev_picked (z : Str) (u : Tok) : (slicePicked z none none (some (-1, u))).filterMap (z.cps[·]?) = z.cps.toList.reverse := by
  show (sliceRange ((z.length : Int) - 1) (-1) (-1)).filterMap (z.cps[·]?) = _
  rw [PySem.W.krv_sliceRange, PySem.W.krv_range, List.filterMap_reverse]
  exact congrArg List.reverse (PySem.W.krv_all z.cps)
section
variable {X : Cx}
theorem pe_revS {e : Expr} {te : TE} {k : Nat} {p1 p2 p3 pos : Pos} (he : L2.PE X e te) : L2.PE X (e.Subscript (Expr.Slice none none (some (Expr.UnaryOp UnaryOp.USub (Expr.Constant (Const.int 1) k p1) p2)) p3) pos) (tRevS te) := by
  refine ⟨fun pins s σ H Q I h => ?_⟩
  refine Subscript_ (thn (he.run pins s σ H _ I h) fun v s1 ⟨x, H1, I1, r1, q1⟩ => ?_)
  obtain ⟨z, ex, hz, q⟩ := q1
  subst ex
  obtain ⟨t, rfl⟩ := r1
  have hst : PO X (some (.UnaryOp .USub (.Constant (.int 1) k p1) p2)) (tPart (tUn (rU fun i => .int (-i)) (tC (.int 1)))) := po_some (pe_un un_neg pe_int)
  refine wpAny_Slice (thn (po_none.run pins s1 σ H1 (fun o H2 => o = none ∧ H2 = H1) I1 ⟨rfl, rfl⟩) fun vl s2 ⟨l, H2, I2, pl, el, e2⟩ => ?_)
  subst el e2
  refine thn (po_none.run pins s2 σ H2 (fun o H3 => o = none ∧ H3 = H2) I2 ⟨rfl, rfl⟩) fun vu s3 ⟨u, H3, I3, pu, eu, e3⟩ => ?_
  subst eu e3
  refine thn (hst.run pins s3 σ H3 (fun o H4 => o = some (-1) ∧ H4 = H3) I3 ⟨1, rfl, -1, rfl, rfl, rfl⟩) fun vs s4 ⟨o, H4, I4, ps, eo, e4⟩ => ?_
  subst eo e4
  have I5 : Inv X pins σ H4 { s4 with heap := s4.heap.push { cls := .type "slice", data := .fields #[vl, vu, vs] } } := I4.kept (t' := s4.toks) fun b ob q => Heap.get?_push_of_some _ q
  obtain ⟨l', rfl, hl'⟩ := IsPart.raw pl
  obtain ⟨u', rfl, hu'⟩ := IsPart.raw pu
  obtain ⟨w', rfl, hw'⟩ := IsPart.raw ps
  have e1 : l' = none := by cases l' with | none => rfl | some _ => cases hl'
  have e2 : u' = none := by cases u' with | none => rfl | some _ => cases hu'
  subst e1 e2
  obtain ⟨u1, rfl⟩ : ∃ u1, w' = some (-1, u1) := by
    cases w' with
    | none => cases hw'
    | some p => obtain ⟨a, b⟩ := p; cases hw'; exact ⟨b, rfl⟩
  refine tail_any (ops := [.ref s4.heap.objs.size, .str z t]) (typeIs_str _ _ _) (F.slot_str_getitem.lookup) ?_ (by with_unfolding_all rfl)
  refine wpAny_getItem_str_slice (l := none) (u := none) (st := some (-1, u1)) ⟨_, Heap.get?_push_size _ rfl, rfl, rfl⟩ rfl ?_
  have hm : sliceMade z t none none (some (-1, u1)) = .str (revS z) := by
    unfold sliceMade
    rw [rev_picked]
    rfl
  rw [hm]
  refine ⟨?_, .str (revS z), H4, I5.tok _, ⟨_, rfl⟩, q⟩
  show (revS z).cps.size ≤ _
  unfold revS
  rw [List.size_toArray, List.length_reverse, Array.length_toList]
  exact hz
end
section
variable {W : Wd} {Γ : Gam} {ta tb te : TE} {K : PySem.W.Frag}
theorem ev_revS {k : Str → Prop} (h : EvK W te Γ fun z : Str => z.length ≤ 100000 ∧ k (revS z)) : EvK W (tRevS te) Γ k := fun σ H Q G c => h σ H _ G fun v H1 z e1 d ⟨hl, q⟩ => by
  have d' : v = V.str z := d
  exact ⟨z, d', Nat.le_trans hl (by decide), c _ H1 (revS z) e1 rfl q⟩
theorem ev_ixS {k : Str → Prop} (h : EvK W ta Γ fun z : Str => EvK W tb Γ fun i : Int => z.length ≤ 100000 ∧ ∃ c, atI z.cps.toList i = some c ∧ k ⟨#[c]⟩) : EvK W (tOp rIxS ta tb) Γ k := by
  refine ev_two (h.imp fun z hz => hz.imp fun i ⟨hl, c, hc, q⟩ x y H Q o dx dy cc => ?_)
  have dx' : x = V.str z := dx
  have dy' : y = V.int i := dy
  exact ⟨z, i, c, dx', dy', Nat.le_trans hl (by decide), hc, cc _ H _ (Ext.refl o) rfl q⟩
theorem inV_strs (x : Str) (as : List Str) : inV (V.str x) (as.map V.str) = decide (x ∈ as) := by
  have h : inV (V.str x) (as.map V.str) = as.any fun a => a == x := by
    unfold inV
    rw [List.any_map]
    rfl
  rw [h, Bool.eq_iff_iff, List.any_eq_true, decide_eq_true_iff]
  exact ⟨fun ⟨a, ha, e⟩ => by rw [← eq_of_beq e]; exact ha, fun hx => ⟨x, hx, beq_self_eq_true x⟩⟩
theorem flat_strs (as : List Str) : (as.map V.str).all flatV = true := by
  rw [List.all_eq_true]
  intro v hv
  obtain ⟨a, _, rfl⟩ := List.mem_map.mp hv
  rfl
theorem ev_inS {k : Bool → Prop} (hK : W.B.K = K) (h : EvK W ta Γ fun x : Str => EvK W tb Γ fun as : List Str => k (decide (x ∈ as))) : EvK W (tOp (rIn K false) ta tb) Γ k := by
  subst hK
  refine ev_two (h.imp fun x hx => hx.imp fun as z v u H Q o dx ⟨p, vs, hu, hp, hd⟩ c => ?_)
  have dx' : v = V.str x := dx
  subst dx' hu
  have e := Dl.strs hd
  refine ⟨p, vs, rfl, .inl hp.sq, rfl, by rw [e]; exact flat_strs as, c _ H _ (Ext.refl o) ?_ z⟩
  show V.bl (inV (V.str x) vs) = _
  rw [e, inV_strs]
end
def wordL : Nat → Int → List Nat
  | 0, _ => []
  | k + 1, n => (97 + (n % 26).toNat) :: wordL k (n / 26)
def wordS (n : Int) (k : Nat) (b : Bool) : Str := ⟨(if b = true then (wordL k n).reverse else wordL k n).toArray⟩
theorem wordL_len : ∀ (k : Nat) (n : Int), (wordL k n).length = k
  | 0, _ => rfl
  | k + 1, n => by unfold wordL; rw [List.length_cons, wordL_len k]
theorem wordL_az : ∀ (k : Nat) (n : Int), ∀ c ∈ wordL k n, 97 ≤ c ∧ c ≤ 122
  | 0, _, c, h => nomatch h
  | k + 1, n, c, h => by
    unfold wordL at h
    rcases List.mem_cons.mp h with rfl | h
    · omega
    · exact wordL_az k _ c h
theorem wordS_list (n : Int) (k : Nat) (b : Bool) : (wordS n k b).cps.toList = if b = true then (wordL k n).reverse else wordL k n := rfl
theorem wordS_len (n : Int) (k : Nat) (b : Bool) : (wordS n k b).length = k := by
  show (if b = true then (wordL k n).reverse else wordL k n).toArray.size = k
  rw [List.size_toArray]
  split
  · rw [List.length_reverse, wordL_len]
  · rw [wordL_len]
theorem wordS_az {n : Int} {k : Nat} {b : Bool} : ∀ c ∈ (wordS n k b).cps.toList, 97 ≤ c ∧ c ≤ 122 := fun c h => by
  rw [wordS_list] at h
  split at h
  · exact wordL_az k n c (List.mem_reverse.mp h)
  · exact wordL_az k n c h
theorem wordS_inj {n m : Int} {k : Nat} {b : Bool} (hk : 1 ≤ k) (h : wordS n k b = wordS m k b) : n % 26 = m % 26 := by
  have e : wordL k n = wordL k m := by
    have e1 : (wordS n k b).cps.toList = (wordS m k b).cps.toList := by rw [h]
    rw [wordS_list, wordS_list] at e1
    split at e1
    · exact List.reverse_inj.mp e1
    · exact e1
  obtain ⟨j, rfl⟩ : ∃ j, k = j + 1 := ⟨k - 1, by omega⟩
  unfold wordL at e
  have := (List.cons.inj e).1
  omega
theorem nodup_sub {α : Type} [DecidableEq α] : ∀ {l B : List α}, l.Nodup → (∀ x ∈ l, x ∈ B) → l.length ≤ B.length
  | [], B, _, _ => Nat.zero_le _
  | x :: l, B, hn, hs => by
    obtain ⟨h1, h2⟩ := List.nodup_cons.mp hn
    have hx := hs x List.mem_cons_self
    have := nodup_sub (B := B.erase x) h2 fun y hy => (List.mem_erase_of_ne (fun e => h1 (by rw [← e]; exact hy))).mpr (hs y (List.mem_cons_of_mem _ hy))
    rw [List.length_erase_of_mem hx] at this
    have := List.length_pos_of_mem hx
    rw [List.length_cons]
    omega
def barS : List Str := [Str.ofString "rank", Str.ofString "trim", Str.ofString "weigh", Str.ofString "together"]
/-- twenty words one behind the other are not all taken -/
theorem words_free {n : Int} {k : Nat} {b : Bool} (hk : 1 ≤ k) {B : List Str} (hB : B.length < 20) (h : ∀ j : Nat, j < 20 → wordS (n + (j : Int)) k b ∈ B) : False := by
  have := nodup_sub (l := (List.range 20).map fun j : Nat => wordS (n + (j : Int)) k b) (B := B) (by
    rw [List.nodup_iff_pairwise_ne, List.pairwise_map]
    refine List.Pairwise.imp_of_mem (R := (· ≠ ·)) (fun {i j} hi hj hne e => ?_) List.nodup_range
    have q := wordS_inj hk e
    have := List.mem_range.mp hi
    have := List.mem_range.mp hj
    omega) (fun x hx => by
      obtain ⟨j, hj, rfl⟩ := List.mem_map.mp hx
      exact h j (List.mem_range.mp hj))
  rw [List.length_map, List.length_range] at this
  omega
/-- a name that a gauge may have -/
def GoodW (w : Str) : Prop := 1 ≤ w.length ∧ w.length ≤ 12 ∧ (∀ c ∈ w.cps.toList, 97 ≤ c ∧ c ≤ 122) ∧ w ∉ barS
end G
namespace G
open PySem PySem.Spec PyProof.Rows L2 StX
theorem abc_at {i : Int} (h0 : 0 ≤ i) (h1 : i < 26) : atI (Str.ofString "abcdefghijklmnopqrstuvwxyz").cps.toList i = some (97 + i.toNat) := by
  have key : ∀ j : Fin 26, atI (Str.ofString "abcdefghijklmnopqrstuvwxyz").cps.toList ((j.val : Nat) : Int) = some (97 + j.val) := by decide +kernel
  obtain ⟨n, rfl⟩ : ∃ n : Nat, i = n := ⟨i.toNat, by omega⟩
  rw [key ⟨n, by omega⟩, Int.toNat_natCast]
theorem snoc_list (z : Str) (c : Nat) : (z ++ (⟨#[c]⟩ : Str)).cps.toList = z.cps.toList ++ [c] := by
  show (z.cps ++ #[c]).toList = _
  rw [Array.toList_append]
theorem snoc_len (z : Str) (c : Nat) : (z ++ (⟨#[c]⟩ : Str)).length = z.length + 1 := by
  show (z.cps ++ #[c]).size = _
  rw [Array.size_append]
  rfl
theorem str_len (z : Str) : z.length = z.cps.toList.length := by
  show z.cps.size = _
  rw [Array.length_toList]
theorem wordS_of {z : Str} {n : Int} {k : Nat} (h : z.cps.toList = wordL k n) : (wordS n k false = z) ∧ wordS n k true = revS z := by
  constructor
  · unfold wordS
    rw [if_neg (by decide), ← h]
  · unfold wordS revS
    rw [if_pos rfl, ← h]
end G
set_option Elab.async false
set_option linter.all false
set_option maxRecDepth 100000
set_option maxHeartbeats 2000000
namespace G
open PySem PySem.Spec PyProof.Rows L2 StX
/-- .. and of the object's class C, the next m behind D at g -/
structure SupM (K : PySem.W.Frag) (C D : Addr) (m : Str) (g : Addr) : Prop where
  sub : PySem.W.mroIn K C (.ref D) = some true
  at_ : PySem.W.ks_superIn K C D m = some (some (.ref g))
  ty : PySem.W.typeIn K (.ref g) = some (.type "function")
  fi : PySem.W.fnIn K g = true
end G
set_option Elab.async false
set_option linter.all false
set_option maxRecDepth 100000
set_option maxHeartbeats 2000000
namespace G
open PySem PySem.Spec PyProof.Rows L2 StX
inductive GK where
  | pl | co | la | lc
  deriving DecidableEq
def GK.cn : GK → Cn
  | .pl => .Gauge
  | .co => .CoarseGauge
  | .la => .LateGauge
  | .lc => .LateCoarseGauge
def GK.coarse : GK → Bool
  | .co => true
  | .lc => true
  | _ => false
def GK.late : GK → Bool
  | .la => true
  | .lc => true
  | _ => false
structure Gau where
  k : GK
  nm : Str
  rd : Int
  st : Int
  lt : Int
  pc : Int
  deriving DecidableEq
/-- the fields, in the order in which they are set -/
def gauF (g : Gau) : List (Str × V) := [(("name" : Str), V.str g.nm), ("radius", V.int g.rd)] ++ (if g.k.late = true then [(("late" : Str), V.int g.lt), ("pace", V.int g.pc)] else []) ++ (if g.k.coarse = true then [(("step" : Str), V.int g.st)] else [])
instance : Rep Gau :=
  ⟨fun W H v g => ∃ a dx, v = .ref a ∧ ¬ W.mu a ∧ H a = some (.ins (W.B.cl g.k.cn) dx (gauF g)),
   fun e ⟨a, dx, hv, m, h⟩ => ⟨a, dx, hv, m, e _ _ m h⟩,
   fun D n ⟨a, dx, hv, m, h⟩ => ⟨a, dx, hv, mu_grow n m h, h⟩,
   fun D ⟨a, dx, hv, m, h⟩ => ⟨a, dx, hv, fun z => m (.inl z), h⟩⟩
/-- slacks as the document tells them -/
def sbF (g : Gau) : Int := g.rd + (if g.k.late = true then g.lt * g.pc else 0)
def saF (g : Gau) : Int := g.rd + (if g.k.coarse = true then g.st - 1 else 0) + (if g.k.late = true then g.lt * g.pc else 0)
theorem nk1 : (("radius" : Str) == ("name" : Str)) = false := by decide +kernel
theorem nk2 : (("late" : Str) == ("name" : Str)) = false := by decide +kernel
theorem nk3 : (("late" : Str) == ("radius" : Str)) = false := by decide +kernel
theorem nk4 : (("pace" : Str) == ("name" : Str)) = false := by decide +kernel
theorem nk5 : (("pace" : Str) == ("radius" : Str)) = false := by decide +kernel
theorem nk6 : (("pace" : Str) == ("late" : Str)) = false := by decide +kernel
theorem nk7 : (("step" : Str) == ("name" : Str)) = false := by decide +kernel
theorem nk8 : (("step" : Str) == ("radius" : Str)) = false := by decide +kernel
theorem nk9 : (("step" : Str) == ("late" : Str)) = false := by decide +kernel
theorem nk10 : (("step" : Str) == ("pace" : Str)) = false := by decide +kernel
theorem gau_name (g : Gau) : (gauF g).lookup ("name" : Str) = some (.str g.nm) := by simp [gauF, List.lookup]
theorem gau_radius (g : Gau) : (gauF g).lookup ("radius" : Str) = some (.int g.rd) := by simp [gauF, List.lookup, nk1]
theorem gau_late {g : Gau} (h : g.k.late = true) : (gauF g).lookup ("late" : Str) = some (.int g.lt) := by simp [gauF, List.lookup, h, nk2, nk3]
theorem gau_pace {g : Gau} (h : g.k.late = true) : (gauF g).lookup ("pace" : Str) = some (.int g.pc) := by simp [gauF, List.lookup, h, nk4, nk5, nk6]
theorem gau_step {g : Gau} (h : g.k.coarse = true) : (gauF g).lookup ("step" : Str) = some (.int g.st) := by
  obtain ⟨k, nm, rd, st, lt, pc⟩ := g
  cases k with
  | pl => cases h
  | la => cases h
  | co => simp [gauF, List.lookup, GK.late, GK.coarse, nk7, nk8]
  | lc => simp [gauF, List.lookup, GK.late, GK.coarse, nk7, nk8, nk9, nk10]
/-- what the text says of the four classes -/
structure GauT (B : Bs) : Prop where
  cl : ∀ k : GK, L2.Cls B.K (B.cl k.cn)
  nname : ∀ k : GK, NoAttr B.K (B.cl k.cn) "name"
  nradius : ∀ k : GK, NoAttr B.K (B.cl k.cn) "radius"
  nstep : ∀ k : GK, NoAttr B.K (B.cl k.cn) "step"
  nlate : ∀ k : GK, NoAttr B.K (B.cl k.cn) "late"
  npace : ∀ k : GK, NoAttr B.K (B.cl k.cn) "pace"
section
variable {W : Wd} {Γ : Gam} {te to : TE} {ta : TA} {K : PySem.W.Frag}
theorem ev_gname {k : Str → Prop} (hK : W.B.K = K) (hG : GauT W.B) (h : EvK W te Γ fun g : Gau => k g.nm) : EvK W (tFld K te "name") Γ k := by
  subst hK
  refine fun σ H Q E c => h σ H _ E fun v H1 g e1 ⟨a, dx, hv, m, hH⟩ z => ?_
  exact ⟨a, _, dx, _, _, hv, hH, hG.cl _, hG.nname _, gau_name _, c _ H1 g.nm e1 rfl z⟩
theorem ev_radius {k : Int → Prop} (hK : W.B.K = K) (hG : GauT W.B) (h : EvK W te Γ fun g : Gau => k g.rd) : EvK W (tFld K te "radius") Γ k := by
  subst hK
  refine fun σ H Q E c => h σ H _ E fun v H1 g e1 ⟨a, dx, hv, m, hH⟩ z => ?_
  exact ⟨a, _, dx, _, _, hv, hH, hG.cl _, hG.nradius _, gau_radius _, c _ H1 g.rd e1 rfl z⟩
theorem ev_step {k : Int → Prop} (hK : W.B.K = K) (hG : GauT W.B) (h : EvK W te Γ fun g : Gau => g.k.coarse = true ∧ k g.st) : EvK W (tFld K te "step") Γ k := by
  subst hK
  refine fun σ H Q E c => h σ H _ E fun v H1 g e1 ⟨a, dx, hv, m, hH⟩ ⟨hc, z⟩ => ?_
  exact ⟨a, _, dx, _, _, hv, hH, hG.cl _, hG.nstep _, gau_step hc, c _ H1 g.st e1 rfl z⟩
theorem ev_late {k : Int → Prop} (hK : W.B.K = K) (hG : GauT W.B) (h : EvK W te Γ fun g : Gau => g.k.late = true ∧ k g.lt) : EvK W (tFld K te "late") Γ k := by
  subst hK
  refine fun σ H Q E c => h σ H _ E fun v H1 g e1 ⟨a, dx, hv, m, hH⟩ ⟨hc, z⟩ => ?_
  exact ⟨a, _, dx, _, _, hv, hH, hG.cl _, hG.nlate _, gau_late hc, c _ H1 g.lt e1 rfl z⟩
theorem ev_pace {k : Int → Prop} (hK : W.B.K = K) (hG : GauT W.B) (h : EvK W te Γ fun g : Gau => g.k.late = true ∧ k g.pc) : EvK W (tFld K te "pace") Γ k := by
  subst hK
  refine fun σ H Q E c => h σ H _ E fun v H1 g e1 ⟨a, dx, hv, m, hH⟩ ⟨hc, z⟩ => ?_
  exact ⟨a, _, dx, _, _, hv, hH, hG.cl _, hG.npace _, gau_pace hc, c _ H1 g.pc e1 rfl z⟩
end
end G
set_option Elab.async false
set_option linter.all false
set_option maxRecDepth 100000
set_option maxHeartbeats 2000000
namespace G
open PySem PySem.Spec PyProof.Rows L2 StX
def rInSign : R2 := fun x y H Q => ∃ (c : Nat) (z : Str), x = .str ⟨#[c]⟩ ∧ y = .str z ∧ Q (.bl (decide (c ∈ z.cps.toList))) H
section
variable {W : Wd} {Γ : Gam} {te tb tl : TE} {tt : TT} {g : TG} {K : PySem.W.Frag}
theorem ev_inSign {k : Bool → Prop} (h : EvK W te Γ fun x : Str => ∃ c, x = ⟨#[c]⟩ ∧ EvK W tb Γ fun z : Str => k (decide (c ∈ z.cps.toList))) : EvK W (tOp rInSign te tb) Γ k := by
  refine fun σ H Q G cc => h σ H _ G fun v H1 x e1 d ⟨c, ex, h2⟩ => h2 σ H1 _ (G.ext e1) fun u H2 z e2 d2 q => ?_
  have d' : v = V.str x := d
  have d2' : u = V.str z := d2
  exact ⟨c, z, by rw [d', ex], d2', cc _ H2 _ (e1.trans e2) rfl q⟩
/-- x in a constant tuple of texts -/
theorem ev_inCst {k : Bool → Prop} {C : Addr} {as : List Str} (hC : ∀ H, SqT K H C (as.map V.str)) (h : EvK W te Γ fun x : Str => k (decide (x ∈ as))) : EvK W (tOp (rIn K false) te (tC (.ref C))) Γ k := by
  refine fun σ H Q G c => h σ H _ G fun v H1 x e1 d z => ?_
  have d' : v = V.str x := d
  subst d'
  refine ⟨C, as.map V.str, rfl, .inr (hC H1), rfl, flat_strs as, c _ H1 _ e1 ?_ z⟩
  show V.bl (inV (V.str x) (as.map V.str)) = _
  rw [inV_strs]
/-- C.f, a constant number -/
theorem ev_cvalI {k : Int → Prop} {C : Addr} {mc u : Value} {f : Str} {n : Int} (r : ClX.CRead K C mc) (c : ClX.CVal K C mc f (.int n) u) (h : k n) : EvK W (ClX.tCVal K (tC (.ref C)) f) Γ k := fun σ H Q G cc =>
  ⟨C, mc, _, u, rfl, r, c, cc _ H n (Ext.refl G.ok) rfl h⟩
/-- [te for g in a text if tt] -/
theorem evF_lcS {β : Type} {rβ : Rep β} {vs : List Nat} {k : List β → Prop}
    (h : EvK W tl Γ fun z : Str => z.length ≤ 100000 ∧ ∃ I : Nat → List β → Prop, I 0 [] ∧ (∀ W', Sub W W' → ∀ (i c : Nat) (bs : List β), z.cps.toList[i]? = some c → I i bs → LcTurn W' g tt te vs Γ (⟨#[c]⟩ : Str) (I (i + 1) bs) fun y : β => I (i + 1) (bs ++ [y])) ∧ ∀ bs, I z.length bs → k bs) :
    EvF W (tLc (iStr tl) g tt te vs) Γ k := by
  refine fun σ H Q E c => h σ H _ E fun v H1 z e1 hv ⟨hl, I, h0, hs, hf⟩ => ⟨z, hv, fun D n => ?_⟩
  have G1 := E.ext e1
  have eD : Ext W H1 (upd H1 D (.lst [])) := Ext.new e1.ok n
  refine turns (J := Its z) (n := z.length) (fun i H' => Ext W H1 H' ∧ ∃ acc bs, H' D = some (.lst acc) ∧ Dl (den (W.toWc.plus D) H') acc bs ∧ acc.length ≤ i ∧ I i bs) ⟨eD, [], [], upd_same, .nil, Nat.le_refl _, h0⟩ (fun i H' hi _ => hi) (fun H' _ => Nat.le_refl _) ?_ ?_
  · rintro i H' x H'' hi ⟨e, acc, bs, hD, hb, ha, q⟩ ⟨rfl, cc, hc, rfl⟩
    have hc' : z.cps.toList[i]? = some cc := by rw [Array.getElem?_toList]; exact hc
    exact lc_turn (I := I (i + 1)) (P := fun H' => Ext W H1 H' ∧ ∃ acc bs, H' D = some (.lst acc) ∧ Dl (den (W.toWc.plus D) H') acc bs ∧ acc.length ≤ i + 1 ∧ I (i + 1) bs) (hs _ (Sub.plus (n := n) (o1 := e1.ok) (w1 := G1.wish)) i cc bs hc' q) G1 e hD hb rfl (by omega) fun H2 acc2 bs2 e2 hD2 hb2 hl2 q2 => ⟨e2, acc2, bs2, hD2, hb2, by omega, q2⟩
  · rintro H' ⟨e, acc, bs, hD, hb, ha, q⟩
    exact c D H' acc bs (fresh_back e1.ok e1 n) (e1.trans e) hD hb (hf bs q)
/-- .. of each sign f, none left out -/
theorem ev_lcSF {β : Type} {rβ : Rep β} {vs : List Nat} {k : List β → Prop} (f : Nat → β)
    (h : EvK W tl Γ fun z : Str => z.length ≤ 100000 ∧ (∀ W', Sub W W' → ∀ c ∈ z.cps.toList, LcTurn W' g tt te vs Γ (⟨#[c]⟩ : Str) False fun y : β => y = f c) ∧ k (z.cps.toList.map f)) :
    EvK W (tLc (iStr tl) g tt te vs) Γ k := (evF_lcS (h.imp fun z ⟨hl, hs, q⟩ => ⟨hl, fun i bs => bs = (z.cps.toList.take i).map f, by simp, fun W' s i c bs hc e => by
  have ht : z.cps.toList.take (i + 1) = z.cps.toList.take i ++ [c] := by
    rw [List.take_succ, hc]; rfl
  obtain ⟨js, h1, h2⟩ := hs W' s c (List.mem_of_getElem? hc)
  refine ⟨js, h1, fun σ H v Q E d cc => h2 σ H v Q E d fun σ' Γ' G m q2 => cc σ' Γ' G m ?_⟩
  intro σ2 H2 Q2 E2 c2
  refine q2 σ2 H2 Q2 E2 fun H3 b e3 ⟨hy, hn⟩ => c2 H3 b e3 ⟨fun hb => (hy hb).imp fun y hyf => ?_, fun hb => (hn hb).elim⟩
  have e' : bs = (z.cps.toList.take i).map f := e
  show bs ++ [y] = (z.cps.toList.take (i + 1)).map f
  rw [ht, List.map_append, ← e', hyf]; rfl, fun bs e => by
    have e' : bs = (z.cps.toList.take z.length).map f := e
    rw [e', str_len, List.take_length]
    exact q⟩)).k
end
/-- whether a gauge may have this name -/
def gnB (w : Str) : Bool := !decide (w ∈ barS) && (decide (1 ≤ (w.length : Int)) && decide ((w.length : Int) ≤ 12) && (w.cps.toList.map fun c => decide (c ∈ (Str.ofString "abcdefghijklmnopqrstuvwxyz").cps.toList)).all id)
theorem abc_mem {c : Nat} (h : 97 ≤ c ∧ c ≤ 122) : c ∈ (Str.ofString "abcdefghijklmnopqrstuvwxyz").cps.toList := by
  have key : ∀ j : Fin 26, (97 + j.val) ∈ (Str.ofString "abcdefghijklmnopqrstuvwxyz").cps.toList := by decide +kernel
  have := key ⟨c - 97, by omega⟩
  rw [show 97 + (c - 97) = c by omega] at this
  exact this
theorem gnB_good {w : Str} (h : GoodW w) : gnB w = true := by
  obtain ⟨h1, h2, h3, h4⟩ := h
  unfold gnB
  rw [decide_eq_false h4, decide_eq_true (by omega : 1 ≤ (w.length : Int)), decide_eq_true (by omega : (w.length : Int) ≤ 12)]
  simp only [Bool.not_false, Bool.true_and, List.all_map, List.all_eq_true]
  exact fun c hc => decide_eq_true (abc_mem (h3 c hc))
end G
namespace G
open PySem PySem.Spec PyProof.Rows L2 StX
section
variable {X : Cx}
theorem pe_globE {x : Str} {v : V} {pos : Pos} (hm : ∃ u, X.mg x = some u ∧ L2.RelV v u) (hg : Gl X x := by rfl) (hd : (x == ("__debug__" : Str)) = false := by decide) : L2.PE X (.Name x pos) (tC v) := by
  obtain ⟨u, h1, h2⟩ := hm
  exact pe_glob hg h1 h2 hd
theorem pe_cvalK (K : PySem.W.Frag) {e : Expr} {f : Str} {ta : TE} {pos : Pos} (he : L2.PE X e ta) (hb : attributeBase e f X.env (eval e X.env) = eval e X.env := by rfl) (hK : X.K = K := by rfl) : L2.PE X (.Attribute e f pos) (ClX.tCVal K ta f) := by subst hK; exact ClX.pe_cval he hb
end
end G
namespace G
open PySem PySem.Spec PyProof.Rows L2 StX
theorem ev_lenS {W : Wd} {Γ : Gam} {te : TE} {k : Int → Prop} (h : EvK W te Γ fun z : Str => z.length ≤ 100000 ∧ k (z.length : Int)) : EvK W (tCB (fun xs H Q => ∃ z, xs = [.str z] ∧ z.length ≤ sizeLine ∧ Q (.int (z.length : Nat)) H) (tCons te tNil)) Γ k := fun σ H Q G c =>
  h σ H _ G fun v H1 z e1 d ⟨hl, q⟩ => ⟨z, congrArg (fun x => [x]) d, Nat.le_trans hl (by decide), c _ H1 _ e1 rfl q⟩
end G
namespace G
open PySem PySem.Spec PyProof.Rows L2 StX
/-- Gauge.__init__ at an object of any of the four kinds: name and radius are set -/
def spGI (B : Bs) : Sp := fun vs H Q E => ∃ (W : Wd) (p dx : Addr) (fs : List (Str × V)) (kd : GK) (nm : Str) (rd : Int), vs = [.ref p, .str nm, .int rd] ∧ H p = some (.ins (B.cl kd.cn) dx fs) ∧ W.B = B ∧ W.ok H ∧ ¬ W.mu p ∧ fs.length < 900 ∧ gnB nm = true ∧ nm.length ≤ 100000 ∧ 0 ≤ rd ∧ GauT B ∧
  ∀ H', Ext W H H' → Q .non (upd (upd H' p (.ins (B.cl kd.cn) dx (putF "name" (.str nm) fs))) p (.ins (B.cl kd.cn) dx (putF "radius" (.int rd) (putF "name" (.str nm) fs))))
end G
namespace G
open PySem PySem.Spec PyProof.Rows L2 StX
theorem putF_le (f : Str) (v : V) : ∀ fs : List (Str × V), (putF f v fs).length ≤ fs.length + 1
  | [] => Nat.le_refl _
  | (g, x) :: r => by
    unfold putF
    split
    · exact Nat.le_succ _
    · exact Nat.succ_le_succ (putF_le f v r)
end G
namespace G
open PySem PySem.Spec PyProof.Rows L2 StX
theorem gau_of {W : Wd} {B : Bs} (h : W.B = B) (g : GauT B) : GauT W.B := by rw [h]; exact g
end G
set_option Elab.async false
set_option linter.all false
set_option maxRecDepth 100000
set_option maxHeartbeats 2000000
namespace G
open PySem PySem.Spec PyProof.Rows L2 StX
/-- the main module's file, and no own name super at its top -/
class MainP (P : Program) : Prop where
  file : ((P.main.file : Str) == (Str.ofString "/claim/cut.py")) = true
  top : (P.main.scope.names.lookup ("super" : Str)).isSome = false
structure DefSup (K : PySem.W.Frag) (name qual : Str) (st : Stmt) (f D cc cda : Addr) : Prop where
  fn : ∃ oc od dV kV doc pm an ct osl ar, K.lookup f = some ⟨oc, od, .func (PySem.W.ksFn name qual (defArgs st) (defBody st) (defScope st) dV kV doc pm an (.ref cda) ct cc), osl⟩ ∧ ((defArgs st).posonlyargs ++ (defArgs st).args).head? = some ar ∧ ar.arg = Str.ofString "self" ∧
    ∀ (s : Shared) (u : Value), BindsTo s (PySem.W.ksFn name qual (defArgs st) (defBody st) (defScope st) dV kV doc pm an (.ref cda) ct cc) ⟨[u], []⟩ [(Str.ofString "self", u)]
  cd : PySem.W.codeIn K (.ref cda) qual = true
  rec_ : ∃ ccl cdd vs ccs tf, K.lookup cda = some ⟨ccl, cdd, .fields vs, ccs⟩ ∧ vs[2]? = some (.str (Str.ofString "/claim/cut.py") tf)
  cell : ∃ cl cld csl, K.lookup cc = some ⟨cl, cld, .cell (some (.ref D)), csl⟩
  cls : ∃ cdD, PySem.W.clsIn K D = some cdD
  any : PySem.W.nsIn K cStatics "thirdparty.any" = some none
end G
namespace G
open PySem PySem.Spec PyProof.Rows L2 StX
end G
namespace G
open PySem PySem.Spec PyProof.Rows L2 StX
def GauOk (g : Gau) : Prop := g.k.late = true → 0 ≤ g.lt ∧ g.lt ≤ 1000000000000
end G
set_option Elab.async false
set_option linter.all false
set_option maxRecDepth 100000
set_option maxHeartbeats 2000000
namespace G
open PySem PySem.Spec PyProof.Rows L2 StX
section
variable {X : Cx} {CX : CXT} {k n : Nat} {f C : Addr} {fd : FuncData} {ps ks : List Str} {sp : Sp} {E : XK} {x : Str} {p p2 pos : Pos} {e : Expr} {es : List Expr} {kws : List Keyword} {t tk : TA} {g : List Value → List Value → List Value} {gV : List V → List V → List V}
theorem pe_cinitK {pl : Sem Bool} (T : CliT X.K C f) (F : FnOk X.prog X.w X.K X.mg X.base CX k f fd ps sp) (hr : Room k X.A) (hb : KBn X.K fd ps n ks g gV) (hx : Passes CX X E) (hm : X.mg x = some (.ref C)) (ha : PA X (e :: es) t) (hkw : PK X kws tk) (hg : Gl X x := by rfl) (hdb : (x == ("__debug__" : Str)) = false := by decide)
    (hc : eval (.Call (.Attribute (.Name x p) "__init__" p2) (e :: es) kws pos) X.env = (do
      let ov ← eval (.Name x p) X.env
      standAt p2.atName
      let (f, first) ← holding [ov] (getMethod ov "__init__" pl)
      callWith pos f first (backTo pos (starEach (e :: es) X.env)) (backToKw pos (keywordEach kws X.env))) := by rfl)
    (hall : (backToKw pos (keywordEach kws X.env)).all (·.1.isSome) = true := by rfl) (hks : (backToKw pos (keywordEach kws X.env)).filterMap (·.1) = ks := by rfl)
    (he : starEach (e :: es) X.env = (false, eval e X.env) :: starEach es X.env := by rfl)
    (hpl : ((backTo pos (starEach (e :: es) X.env)).any (·.1) || (backToKw pos (keywordEach kws X.env)).any (·.1.isNone)) = false := by rfl) :
    L2.PE X (.Call (.Attribute (.Name x p) "__init__" p2) (e :: es) kws pos) (tCallN n ks.length sp gV E t tk) := by
  refine ⟨fun pins s σ H Q I h => ?_⟩
  refine PySem.W.methodCall_KW (ld_glob I hg hm ?_ hdb) hc
  refine PySem.W.method_cls I.kIn T.ga (PySem.W.cls_value I.kIn T.rd T.at_ (by rfl) ?_)
  show wpAny _ _ (callWith pos (Value.ref f) [] (backTo pos (starEach (e :: es) X.env)) (backToKw pos (keywordEach kws X.env))) _ _ _
  refine PySem.W.callWith_KW (h₀ := X.base) I.ok.mod.kin T.kp hall (thn (ha.run pos pins _ σ H _ (I.tok _) h) fun us s1 ⟨vs, H1, I1, r, q⟩ => ?_) hpl he
  refine thn (hkw.run pos pins s1 σ H1 _ I1 q) fun ws s2 ⟨zs, H2, I2, rz, l1, l2, q2⟩ => ⟨I2.kIn, ?_⟩
  rw [hks]
  exact run_fnN F hr hb hx I2 r rz l1 l2 q2
end
/-- a def with n positional and then keyword-only parameters ks, none with a default -/
structure DefK (K : PySem.W.Frag) (name qual : Str) (st : Stmt) (ps : List Str) (n : Nat) (ks : List Str) (f : Addr) : Prop where
  ex : ∃ fd, Fun K name qual st f fd ∧ KBn K fd ps n ks (fun us ws => us ++ ws) (fun vs zs => vs ++ zs)
theorem kbn_mk {K : PySem.W.Frag} {fd : FuncData} {ps : List Str} {n : Nat} {ks : List Str} (h : ∀ (s : Shared) (us ws : List Value), us.length = n → ws.length = ks.length → BindsTo s fd ⟨us, ks.zip ws⟩ (ps.zip (us ++ ws))) : KBn K fd ps n ks (fun us ws => us ++ ws) (fun vs zs => vs ++ zs) :=
  ⟨fun s us ws _ l1 l2 => h s us ws l1 l2, fun r1 r2 => r1.append r2⟩
end G
namespace G
open PySem PySem.Spec PyProof.Rows L2 StX
/-- CoarseGauge.__init__ at an object of any kind: name, radius and step are set -/
def spCI (B : Bs) : Sp := fun vs H Q E => ∃ (W : Wd) (p dx : Addr) (fs : List (Str × V)) (kd : GK) (nm : Str) (rd st : Int), vs = [.ref p, .str nm, .int rd, .int st] ∧ H p = some (.ins (B.cl kd.cn) dx fs) ∧ W.B = B ∧ W.ok H ∧ ¬ W.mu p ∧ fs.length < 800 ∧ gnB nm = true ∧ nm.length ≤ 100000 ∧ 0 ≤ rd ∧ 1 ≤ st ∧ GauT B ∧
  ∀ H', Ext W H H' → Q .non (upd (upd (upd H' p (.ins (B.cl kd.cn) dx (putF "name" (.str nm) fs))) p (.ins (B.cl kd.cn) dx (putF "radius" (.int rd) (putF "name" (.str nm) fs)))) p (.ins (B.cl kd.cn) dx (putF "step" (.int st) (putF "radius" (.int rd) (putF "name" (.str nm) fs)))))
end G
namespace G
open PySem PySem.Spec PyProof.Rows L2 StX
/-- LateGauge.__init__ at an object of any kind: name, radius, late and pace are set -/
def spTI (B : Bs) : Sp := fun vs H Q E => ∃ (W : Wd) (p dx : Addr) (fs : List (Str × V)) (kd : GK) (nm : Str) (rd lt pc : Int), vs = [.ref p, .str nm, .int rd, .int lt, .int pc] ∧ H p = some (.ins (B.cl kd.cn) dx fs) ∧ W.B = B ∧ W.ok H ∧ ¬ W.mu p ∧ fs.length < 700 ∧ gnB nm = true ∧ nm.length ≤ 100000 ∧ 0 ≤ rd ∧ 0 ≤ lt ∧ 0 ≤ pc ∧ GauT B ∧
  ∀ H', Ext W H H' → Q .non (upd (upd (upd (upd H' p (.ins (B.cl kd.cn) dx (putF "name" (.str nm) fs))) p (.ins (B.cl kd.cn) dx (putF "radius" (.int rd) (putF "name" (.str nm) fs)))) p (.ins (B.cl kd.cn) dx (putF "late" (.int lt) (putF "radius" (.int rd) (putF "name" (.str nm) fs))))) p (.ins (B.cl kd.cn) dx (putF "pace" (.int pc) (putF "late" (.int lt) (putF "radius" (.int rd) (putF "name" (.str nm) fs))))))
end G
namespace G
open PySem PySem.Spec PyProof.Rows L2 StX
/-- LateCoarseGauge.__init__ at a new object -/
def spQI (B : Bs) : Sp := fun vs H Q E => ∃ (W : Wd) (p dx : Addr) (nm : Str) (rd st lt pc : Int), vs = [.ref p, .str nm, .int rd, .int st, .int lt, .int pc] ∧ H p = some (.ins (B.cl .LateCoarseGauge) dx []) ∧ W.B = B ∧ W.ok H ∧ ¬ W.mu p ∧ gnB nm = true ∧ nm.length ≤ 100000 ∧ 0 ≤ rd ∧ 1 ≤ st ∧ 0 ≤ lt ∧ 0 ≤ pc ∧ GauT B ∧
  ∀ H', (∀ a o, ¬ W.mu a → a ≠ p → H a = some o → H' a = some o) → W.ok H' → H' p = some (.ins (B.cl .LateCoarseGauge) dx (gauF ⟨.lc, nm, rd, st, lt, pc⟩)) → Q .non H'
theorem gauF_lc (nm : Str) (rd st lt pc : Int) : putF "step" (.int st) (putF "radius" (.int rd) (putF "name" (.str nm) (putF "pace" (.int pc) (putF "late" (.int lt) (putF "radius" (.int rd) (putF "name" (.str nm) [])))))) = gauF ⟨.lc, nm, rd, st, lt, pc⟩ := by
  have k1 : ¬ (("name" : Str) = "radius") := by decide +kernel
  have k2 : ¬ (("name" : Str) = "late") := by decide +kernel
  have k3 : ¬ (("radius" : Str) = "late") := by decide +kernel
  have k4 : ¬ (("name" : Str) = "pace") := by decide +kernel
  have k5 : ¬ (("radius" : Str) = "pace") := by decide +kernel
  have k6 : ¬ (("late" : Str) = "pace") := by decide +kernel
  have k7 : ¬ (("name" : Str) = "step") := by decide +kernel
  have k8 : ¬ (("radius" : Str) = "step") := by decide +kernel
  have k9 : ¬ (("late" : Str) = "step") := by decide +kernel
  have k10 : ¬ (("pace" : Str) = "step") := by decide +kernel
  simp [putF, gauF, GK.late, GK.coarse, k1, k2, k3, k4, k5, k6, k7, k8, k9, k10]
end G
namespace G
open PySem PySem.Spec PyProof.Rows L2 StX
/-- name and radius set at a new object -/
theorem gauF_pl (nm : Str) (rd st lt pc : Int) : putF "radius" (.int rd) (putF "name" (.str nm) []) = gauF ⟨.pl, nm, rd, st, lt, pc⟩ := by
  have k1 : ¬ (("name" : Str) = "radius") := by decide +kernel
  simp [putF, gauF, GK.late, GK.coarse, k1]
theorem gauF_co (nm : Str) (rd st lt pc : Int) : putF "step" (.int st) (putF "radius" (.int rd) (putF "name" (.str nm) [])) = gauF ⟨.co, nm, rd, st, lt, pc⟩ := by
  have k1 : ¬ (("name" : Str) = "radius") := by decide +kernel
  have k7 : ¬ (("name" : Str) = "step") := by decide +kernel
  have k8 : ¬ (("radius" : Str) = "step") := by decide +kernel
  simp [putF, gauF, GK.late, GK.coarse, k1, k7, k8]
theorem gauF_la (nm : Str) (rd st lt pc : Int) : putF "pace" (.int pc) (putF "late" (.int lt) (putF "radius" (.int rd) (putF "name" (.str nm) []))) = gauF ⟨.la, nm, rd, st, lt, pc⟩ := by
  have k1 : ¬ (("name" : Str) = "radius") := by decide +kernel
  have k2 : ¬ (("name" : Str) = "late") := by decide +kernel
  have k3 : ¬ (("radius" : Str) = "late") := by decide +kernel
  have k4 : ¬ (("name" : Str) = "pace") := by decide +kernel
  have k5 : ¬ (("radius" : Str) = "pace") := by decide +kernel
  have k6 : ¬ (("late" : Str) = "pace") := by decide +kernel
  simp [putF, gauF, GK.late, GK.coarse, k1, k2, k3, k4, k5, k6]
section
variable {W : Wd} {Γ : Gam} {ta tb : TE} {B : Bs} {C : Addr} {E : XK}
/-- Gauge(name, radius), a good name and number -/
theorem ev_gauge {k : Gau → Prop} (st lt pc : Int) (hB : W.B = B) (hC : B.cl .Gauge = C) (hT : GauT B) (h : EvK W ta Γ fun nm : Str => EvK W tb Γ fun rd : Int => (gnB nm = true ∧ nm.length ≤ 100000 ∧ 0 ≤ rd) ∧ k ⟨.pl, nm, rd, st, lt, pc⟩) : EvK W (tMakeR C (spGI B) E (tCons ta (tCons tb tNil))) Γ k := by
  subst hB
  subst hC
  refine fun σ H Q G c => h σ H _ G fun v H1 nm e1 d1 h1 => h1 σ H1 _ (G.ext e1) fun u H2 rd e2 d2 ⟨⟨hg, hn, hr⟩, z⟩ => ?_
  have d1' : v = V.str nm := d1
  have d2' : u = V.int rd := d2
  subst d1' d2'
  intro x dx nx ndx nex
  have e := e1.trans e2
  have m1 := fresh_mu e.ok ndx
  have m2 := fresh_mu e.ok nx
  have ok3 : W.ok (upd (upd H2 dx (.own x)) x (.ins (W.B.cl .Gauge) dx [])) := W.st _ _ _ (W.st _ _ _ e.ok m1) m2
  have e3 : Ext W H2 (upd (upd H2 dx (.own x)) x (.ins (W.B.cl .Gauge) dx [])) := ⟨fun a o _ q => by rw [upd_ne (ne_of_none q nx), upd_ne (ne_of_none q ndx)]; exact q, ok3⟩
  refine ⟨W, x, dx, [], .pl, nm, rd, rfl, upd_same, rfl, ok3, m2, by decide, hg, hn, hr, hT, fun H' e4 => ⟨rfl, ?_⟩⟩
  have e5 := e3.trans e4
  have k7 : Kp W.toWc H2 (upd (upd H' x (.ins (W.B.cl .Gauge) dx (putF "name" (.str nm) []))) x (.ins (W.B.cl .Gauge) dx (putF "radius" (.int rd) (putF "name" (.str nm) [])))) := fun a o m q => by
    rw [upd_ne (ne_of_none q nx), upd_ne (ne_of_none q nx)]
    exact e5.keep a o m q
  refine c (.ref x) _ ⟨.pl, nm, rd, st, lt, pc⟩ (e.trans ⟨k7, W.st _ _ _ (W.st _ _ _ e5.ok m2) m2⟩) ⟨x, dx, rfl, m2, ?_⟩ z
  rw [upd_same]
  show some (HO.ins _ _ (putF "radius" (.int rd) (putF "name" (.str nm) []))) = _
  rw [gauF_pl nm rd st lt pc]
/-- CoarseGauge(name, radius, step=..) -/
theorem ev_coarseG {tc : TE} {k : Gau → Prop} (lt pc : Int) (hB : W.B = B) (hC : B.cl .CoarseGauge = C) (hT : GauT B) (h : EvK W ta Γ fun nm : Str => EvK W tb Γ fun rd : Int => EvK W tc Γ fun st : Int => (gnB nm = true ∧ nm.length ≤ 100000 ∧ 0 ≤ rd ∧ 1 ≤ st) ∧ k ⟨.co, nm, rd, st, lt, pc⟩) : EvK W (tMakeK C 2 1 (spCI B) (fun vs zs => vs ++ zs) E (tCons ta (tCons tb tNil)) (tCons tc tNil)) Γ k := by
  subst hB
  subst hC
  refine fun σ H Q G c => h σ H _ G fun v H1 nm e1 d1 h1 => h1 σ H1 _ (G.ext e1) fun u H2' rd e2' d2 h2 => h2 σ H2' _ ((G.ext e1).ext e2') fun u3 H2 st e3' d3 ⟨⟨hg, hn, hr, hs⟩, z⟩ => ?_
  have d1' : v = V.str nm := d1
  have d2' : u = V.int rd := d2
  have d3' : u3 = V.int st := d3
  subst d1' d2' d3'
  refine ⟨rfl, rfl, ?_⟩
  intro x dx nx ndx nex
  have e := (e1.trans e2').trans e3'
  have m1 := fresh_mu e.ok ndx
  have m2 := fresh_mu e.ok nx
  have ok3 : W.ok (upd (upd H2 dx (.own x)) x (.ins (W.B.cl .CoarseGauge) dx [])) := W.st _ _ _ (W.st _ _ _ e.ok m1) m2
  have e3 : Ext W H2 (upd (upd H2 dx (.own x)) x (.ins (W.B.cl .CoarseGauge) dx [])) := ⟨fun a o _ q => by rw [upd_ne (ne_of_none q nx), upd_ne (ne_of_none q ndx)]; exact q, ok3⟩
  refine ⟨W, x, dx, [], .co, nm, rd, st, rfl, upd_same, rfl, ok3, m2, by decide, hg, hn, hr, hs, hT, fun H' e4 => ⟨rfl, ?_⟩⟩
  have e5 := e3.trans e4
  refine c (.ref x) _ ⟨.co, nm, rd, st, lt, pc⟩ (e.trans ⟨fun a o m q => ?_, W.st _ _ _ (W.st _ _ _ (W.st _ _ _ e5.ok m2) m2) m2⟩) ⟨x, dx, rfl, m2, ?_⟩ z
  · rw [upd_ne (ne_of_none q nx), upd_ne (ne_of_none q nx), upd_ne (ne_of_none q nx)]
    exact e5.keep a o m q
  · rw [upd_same]
    show some (HO.ins _ _ (putF "step" (.int st) (putF "radius" (.int rd) (putF "name" (.str nm) [])))) = _
    rw [gauF_co nm rd st lt pc]
/-- LateGauge(name, radius, late=.., pace=..) -/
theorem ev_lateG {tc td : TE} {k : Gau → Prop} (st : Int) (hB : W.B = B) (hC : B.cl .LateGauge = C) (hT : GauT B) (h : EvK W ta Γ fun nm : Str => EvK W tb Γ fun rd : Int => EvK W tc Γ fun lt : Int => EvK W td Γ fun pc : Int => (gnB nm = true ∧ nm.length ≤ 100000 ∧ 0 ≤ rd ∧ 0 ≤ lt ∧ 0 ≤ pc) ∧ k ⟨.la, nm, rd, st, lt, pc⟩) : EvK W (tMakeK C 2 2 (spTI B) (fun vs zs => vs ++ zs) E (tCons ta (tCons tb tNil)) (tCons tc (tCons td tNil))) Γ k := by
  subst hB
  subst hC
  refine fun σ H Q G c => h σ H _ G fun v H1 nm e1 d1 h1 => h1 σ H1 _ (G.ext e1) fun u H2' rd e2' d2 h2 => h2 σ H2' _ ((G.ext e1).ext e2') fun u3 H3' lt e3' d3 h3 => h3 σ H3' _ (((G.ext e1).ext e2').ext e3') fun u4 H2 pc e4' d4 ⟨⟨hg, hn, hr, hs, hs2⟩, z⟩ => ?_
  have d1' : v = V.str nm := d1
  have d2' : u = V.int rd := d2
  have d3' : u3 = V.int lt := d3
  have d4' : u4 = V.int pc := d4
  subst d1' d2' d3' d4'
  refine ⟨rfl, rfl, ?_⟩
  intro x dx nx ndx nex
  have e := ((e1.trans e2').trans e3').trans e4'
  have m1 := fresh_mu e.ok ndx
  have m2 := fresh_mu e.ok nx
  have ok3 : W.ok (upd (upd H2 dx (.own x)) x (.ins (W.B.cl .LateGauge) dx [])) := W.st _ _ _ (W.st _ _ _ e.ok m1) m2
  have e3 : Ext W H2 (upd (upd H2 dx (.own x)) x (.ins (W.B.cl .LateGauge) dx [])) := ⟨fun a o _ q => by rw [upd_ne (ne_of_none q nx), upd_ne (ne_of_none q ndx)]; exact q, ok3⟩
  refine ⟨W, x, dx, [], .la, nm, rd, lt, pc, rfl, upd_same, rfl, ok3, m2, by decide, hg, hn, hr, hs, hs2, hT, fun H' e4 => ⟨rfl, ?_⟩⟩
  have e5 := e3.trans e4
  refine c (.ref x) _ ⟨.la, nm, rd, st, lt, pc⟩ (e.trans ⟨fun a o m q => ?_, W.st _ _ _ (W.st _ _ _ (W.st _ _ _ (W.st _ _ _ e5.ok m2) m2) m2) m2⟩) ⟨x, dx, rfl, m2, ?_⟩ z
  · rw [upd_ne (ne_of_none q nx), upd_ne (ne_of_none q nx), upd_ne (ne_of_none q nx), upd_ne (ne_of_none q nx)]
    exact e5.keep a o m q
  · rw [upd_same]
    show some (HO.ins _ _ (putF "pace" (.int pc) (putF "late" (.int lt) (putF "radius" (.int rd) (putF "name" (.str nm) []))))) = _
    rw [gauF_la nm rd st lt pc]
/-- LateCoarseGauge(..), gV tells how the keywords as they were written come to their places -/
theorem ev_lcG {k : Gau → Prop} {t tk : TA} {gV : List V → List V → List V} (hB : W.B = B) (hC : B.cl .LateCoarseGauge = C) (hT : GauT B)
    (h : EvA W t Γ fun ts => ∃ (nm : Str) (rd : Int), ts = [T nm, T rd] ∧ EvA W tk Γ fun us => ∃ a b c st lt pc : Int, us = [T a, T b, T c] ∧ (∀ x y q : V, gV [x, y, q] [.int a, .int b, .int c] = [x, y, q, .int st, .int lt, .int pc]) ∧ (gnB nm = true ∧ nm.length ≤ 100000 ∧ 0 ≤ rd ∧ 1 ≤ st ∧ 0 ≤ lt ∧ 0 ≤ pc) ∧ k ⟨.lc, nm, rd, st, lt, pc⟩) : EvK W (tMakeK C 2 3 (spQI B) gV E t tk) Γ k := by
  subst hB
  subst hC
  refine fun σ H Q G cc => h σ H _ G fun vs H1 ts e1 d1 ⟨nm, rd, et, h1⟩ => h1 σ H1 _ (G.ext e1) fun zs H2 us e2 d2 ⟨a, b, c, st, lt, pc, eu, hv, ⟨hg, hn, hr, hs, hl, hp⟩, z⟩ => ?_
  subst et eu
  cases d1 with
  | cons x1 d1 =>
  cases d1 with
  | cons x2 d1 =>
  cases d1
  cases d2 with
  | cons y1 d2 =>
  cases d2 with
  | cons y2 d2 =>
  cases d2 with
  | cons y3 d2 =>
  cases d2
  rw [show _ = V.str nm from x1, show _ = V.int rd from x2, show _ = V.int a from y1, show _ = V.int b from y2, show _ = V.int c from y3]
  refine ⟨rfl, rfl, ?_⟩
  intro x dx nx ndx nex
  rw [hv]
  have e := e1.trans e2
  have m1 := fresh_mu e.ok ndx
  have m2 := fresh_mu e.ok nx
  have ok3 : W.ok (upd (upd H2 dx (.own x)) x (.ins (W.B.cl .LateCoarseGauge) dx [])) := W.st _ _ _ (W.st _ _ _ e.ok m1) m2
  have e3 : Ext W H2 (upd (upd H2 dx (.own x)) x (.ins (W.B.cl .LateCoarseGauge) dx [])) := ⟨fun a o _ q => by rw [upd_ne (ne_of_none q nx), upd_ne (ne_of_none q ndx)]; exact q, ok3⟩
  refine ⟨W, x, dx, nm, rd, st, lt, pc, rfl, upd_same, rfl, ok3, m2, hg, hn, hr, hs, hl, hp, hT, fun H' hk ho hx => ⟨rfl, ?_⟩⟩
  refine cc (.ref x) _ ⟨.lc, nm, rd, st, lt, pc⟩ (e.trans ⟨fun a o m q => ?_, ho⟩) ⟨x, dx, rfl, m2, hx⟩ z
  exact hk a o m (ne_of_none q nx) (e3.keep a o m q)
end
end G
set_option Elab.async false
set_option linter.all false
set_option maxRecDepth 100000
set_option maxHeartbeats 2000000
namespace G
open PySem PySem.Spec PyProof.Rows L2 StX
structure Spc where
  nm : Str
  so : Int
  rd : Int
  gr : Int
  la : Int
  dr : Int
  deriving DecidableEq
def Spc.vs (s : Spc) : List V := [.str s.nm, .int s.so, .int s.rd, .int s.gr, .int s.la, .int s.dr]
instance : Rep Spc :=
  ⟨fun W H v s => ∃ p, v = .ref p ∧ Tq W H p s.vs,
   fun e ⟨p, hv, s⟩ => ⟨p, hv, s.mono e⟩,
   fun D n ⟨p, hv, s⟩ => ⟨p, hv, s.grow D n⟩,
   fun D ⟨p, hv, s⟩ => ⟨p, hv, s.shrink D⟩⟩
section
variable {W : Wd} {Γ : Gam} {ta t1 t2 t3 t4 t5 t6 : TE} {K : PySem.W.Frag}
theorem ev_ixSp0 {k : Str → Prop} (hK : W.B.K = K) (h : EvK W ta Γ fun s : Spc => k s.nm) : EvK W (tOp (rIxT K) ta (tC (.int 0))) Γ k := by
  subst hK
  refine fun σ H Q E c => h σ H _ E fun v H1 a e1 ⟨p, hv, s⟩ q => ?_
  exact ⟨p, _, 0, _, hv, rfl, s.sq, rfl, c _ H1 a.nm e1 rfl q⟩
theorem ev_ixSp {k : Int → Prop} (j : Int) (f : Spc → Int) (hf : ∀ s : Spc, atI s.vs j = some (.int (f s))) (hK : W.B.K = K) (h : EvK W ta Γ fun s : Spc => k (f s)) : EvK W (tOp (rIxT K) ta (tC (.int j))) Γ k := by
  subst hK
  refine fun σ H Q E c => h σ H _ E fun v H1 a e1 ⟨p, hv, s⟩ q => ?_
  exact ⟨p, _, j, _, hv, rfl, s.sq, hf a, c _ H1 (f a) e1 rfl q⟩
theorem ev_ixSp1 {k : Int → Prop} (hK : W.B.K = K) (h : EvK W ta Γ fun s : Spc => k s.so) : EvK W (tOp (rIxT K) ta (tC (.int 1))) Γ k := ev_ixSp 1 Spc.so (fun _ => rfl) hK h
theorem ev_ixSp2 {k : Int → Prop} (hK : W.B.K = K) (h : EvK W ta Γ fun s : Spc => k s.rd) : EvK W (tOp (rIxT K) ta (tC (.int 2))) Γ k := ev_ixSp 2 Spc.rd (fun _ => rfl) hK h
theorem ev_ixSp3 {k : Int → Prop} (hK : W.B.K = K) (h : EvK W ta Γ fun s : Spc => k s.gr) : EvK W (tOp (rIxT K) ta (tC (.int 3))) Γ k := ev_ixSp 3 Spc.gr (fun _ => rfl) hK h
theorem ev_ixSp4 {k : Int → Prop} (hK : W.B.K = K) (h : EvK W ta Γ fun s : Spc => k s.la) : EvK W (tOp (rIxT K) ta (tC (.int 4))) Γ k := ev_ixSp 4 Spc.la (fun _ => rfl) hK h
theorem ev_ixSp5 {k : Int → Prop} (hK : W.B.K = K) (h : EvK W ta Γ fun s : Spc => k s.dr) : EvK W (tOp (rIxT K) ta (tC (.int 5))) Γ k := ev_ixSp 5 Spc.dr (fun _ => rfl) hK h
/-- (name, sort, radius, grain, late, drift) -/
theorem ev_tupSp {k : Spc → Prop} (h : EvK W t1 Γ fun a : Str => EvK W t2 Γ fun b : Int => EvK W t3 Γ fun c : Int => EvK W t4 Γ fun d : Int => EvK W t5 Γ fun e : Int => EvK W t6 Γ fun f : Int => k ⟨a, b, c, d, e, f⟩) :
    EvK W (tTup (tCons t1 (tCons t2 (tCons t3 (tCons t4 (tCons t5 (tCons t6 tNil))))))) Γ k := fun σ H Q E cc =>
  h σ H _ E fun x1 H1 a e1 d1 h1 => h1 σ H1 _ (E.ext e1) fun x2 H2 b e2 d2 h2 => h2 σ H2 _ ((E.ext e1).ext e2) fun x3 H3 c e3 d3 h3 => h3 σ H3 _ (((E.ext e1).ext e2).ext e3) fun x4 H4 d e4 d4 h4 =>
    h4 σ H4 _ ((((E.ext e1).ext e2).ext e3).ext e4) fun x5 H5 e e5 d5 h5 => h5 σ H5 _ (((((E.ext e1).ext e2).ext e3).ext e4).ext e5) fun x6 H6 f e6 d6 z => ⟨by show 6 ≤ sizeLine; decide, fun p hp => by
      have e7 := Ext.new (o := .tup [x1, x2, x3, x4, x5, x6]) e6.ok hp
      refine cc _ _ ⟨a, b, c, d, e, f⟩ ((((((e1.trans e2).trans e3).trans e4).trans e5).trans e6).trans e7) ⟨p, rfl, ?_⟩ z
      rw [show (Spc.vs ⟨a, b, c, d, e, f⟩) = [x1, x2, x3, x4, x5, x6] by
        rw [show x1 = V.str a from d1, show x2 = V.int b from d2, show x3 = V.int c from d3, show x4 = V.int d from d4, show x5 = V.int e from d5, show x6 = V.int f from d6]
        rfl]
      exact Tq.new (fresh_mu e6.ok hp) upd_same⟩
end
end G
namespace G
open PySem PySem.Spec PyProof.Rows L2 StX
/-- int(b), b a bool -/
theorem ev_intB {W : Wd} {Γ : Gam} {te : TE} {k : Int → Prop} (h : EvK W te Γ fun b : Bool => k (if b = true then 1 else 0)) : EvK W (tCB (fun xs H Q => (∃ i, xs = [.int i] ∧ Q (.int i) H) ∨ ∃ k, xs = [.bl k] ∧ Q (.int (if k = true then 1 else 0)) H) (tCons te tNil)) Γ k := fun σ H Q G c =>
  h σ H _ G fun v H1 b e1 d q => .inr ⟨b, congrArg (fun x => [x]) d, c _ H1 _ e1 rfl q⟩
end G
set_option Elab.async false
set_option linter.all false
set_option maxRecDepth 100000
set_option maxHeartbeats 2000000
namespace G
open PySem PySem.Spec PyProof.Rows L2 StX
def rot3 {α : Type} : List α → List α
  | [a, b, c] => [b, c, a]
  | l => l
theorem rot3_vals : ∀ {zs : List V} {ws : List Value}, Vals zs ws → Vals (rot3 zs) (rot3 ws)
  | _, _, .nil => .nil
  | _, _, .cons a .nil => .cons a .nil
  | _, _, .cons a (.cons b .nil) => .cons a (.cons b .nil)
  | _, _, .cons a (.cons b (.cons c .nil)) => .cons b (.cons c (.cons a .nil))
  | _, _, .cons a (.cons b (.cons c (.cons d e))) => .cons a (.cons b (.cons c (.cons d e)))
theorem kbn_mkR {K : PySem.W.Frag} {fd : FuncData} {ps : List Str} {n : Nat} {ks : List Str} (h : ∀ (s : Shared) (us ws : List Value), us.length = n → ws.length = ks.length → BindsTo s fd ⟨us, ks.zip ws⟩ (ps.zip (us ++ rot3 ws))) : KBn K fd ps n ks (fun us ws => us ++ rot3 ws) (fun vs zs => vs ++ rot3 zs) :=
  ⟨fun s us ws _ l1 l2 => h s us ws l1 l2, fun r1 r2 => r1.append (rot3_vals r2)⟩
/-- a def with n positional and then keyword-only parameters, called with these in two orders -/
structure DefKR (K : PySem.W.Frag) (name qual : Str) (st : Stmt) (ps : List Str) (n : Nat) (ks kr : List Str) (f : Addr) : Prop where
  ex : ∃ fd, Fun K name qual st f fd ∧ KBn K fd ps n ks (fun us ws => us ++ ws) (fun vs zs => vs ++ zs) ∧ KBn K fd ps n kr (fun us ws => us ++ rot3 ws) (fun vs zs => vs ++ rot3 zs)
def kdS (n : Int) : GK := if n = 1 then .co else if n = 2 then .la else if n = 3 then .lc else .pl
def gauS (s : Spc) : Gau := ⟨kdS s.so, s.nm, s.rd, s.gr, s.la, s.dr⟩
structure SpcOk (s : Spc) : Prop where
  nm : GoodW s.nm
  so : s.so = 0 ∨ s.so = 1 ∨ s.so = 2 ∨ s.so = 3
  rd : 0 ≤ s.rd ∧ s.rd ≤ 1000000000
  gr : 1 ≤ s.gr ∧ s.gr ≤ 1000000000
  la : 0 ≤ s.la ∧ s.la ≤ 1000
  dr : 0 ≤ s.dr ∧ s.dr ≤ 1000000000
theorem goodW_ok {w : Str} (h : GoodW w) : PyData.strOk w = true := by
  obtain ⟨_, _, h3, _⟩ := h
  unfold PyData.strOk
  rw [← Array.all_toList, List.all_eq_true]
  intro c hc
  have := h3 c hc
  simp
  omega
theorem gauS_ok {s : Spc} (h : SpcOk s) : GauOk (gauS s) := fun _ => ⟨h.la.1, by have := h.la.2; show s.la ≤ 1000000000000; omega⟩
theorem sl_sb {s : Spc} (h : SpcOk s) : s.rd + s.la * s.dr * (if decide (2 ≤ s.so) = true then 1 else 0) = sbF (gauS s) := by
  obtain ⟨nm, so, rd, gr, la, dr⟩ := s
  have := h.so
  rcases this with e | e | e | e <;> simp at e <;> subst e <;> simp [sbF, gauS, kdS, GK.late]
theorem sl_sa {s : Spc} (h : SpcOk s) : s.rd + s.la * s.dr * (if decide (2 ≤ s.so) = true then 1 else 0) + (s.gr - 1) * (if (decide (s.so = 1) || decide (s.so = 3)) = true then 1 else 0) = saF (gauS s) := by
  obtain ⟨nm, so, rd, gr, la, dr⟩ := s
  have := h.so
  rcases this with e | e | e | e <;> simp at e <;> subst e <;> simp [saF, gauS, kdS, GK.late, GK.coarse] <;> omega
theorem mul_ge0 {a b : Int} (h1 : 0 ≤ a) (h2 : 0 ≤ b) : 0 ≤ a * b := Int.mul_nonneg h1 h2
theorem mul_le2 {a b A B : Int} (h1 : 0 ≤ a) (h2 : 0 ≤ b) (h3 : a ≤ A) (h4 : b ≤ B) : a * b ≤ A * B := Int.mul_le_mul h3 h4 h2 (by omega)
theorem gau_ge {s : Spc} (h : SpcOk s) : 0 ≤ sbF (gauS s) ∧ 0 ≤ saF (gauS s) := by
  have h1 := mul_ge0 h.la.1 h.dr.1
  have h2 := h.rd.1
  have h3 := h.gr.1
  unfold sbF saF
  constructor
  · show 0 ≤ s.rd + (if (gauS s).k.late = true then s.la * s.dr else 0)
    split <;> omega
  · show 0 ≤ s.rd + (if (gauS s).k.coarse = true then s.gr - 1 else 0) + (if (gauS s).k.late = true then s.la * s.dr else 0)
    split <;> split <;> omega
section
variable {W : Wd} {Γ : Gam} {te : TE}
/-- .., for the walk -/
theorem ev_isiGv {K : PySem.W.Frag} {C2 : Addr} {k : Bool → Prop} (hK : W.B.K = K) (h : EvK W te Γ fun g : Gau => ∃ f : GK → Bool, (∀ kd : GK, IsT K (W.B.cl kd.cn)) ∧ (∀ kd : GK, PySem.W.kitOne K (.ref (W.B.cl kd.cn)) (.ref C2) = some (f kd)) ∧ k (f g.k)) :
    EvK W (tCB (rIsi K) (tCons te (tCons (tC (.ref C2)) tNil))) Γ k := by
  subst hK
  refine fun σ H Q E q => h σ H _ E fun v H1 g e1 ⟨p, dp, hv, _, hH⟩ ⟨f, hT, hk, z⟩ => ?_
  subst hv
  exact ⟨.ref p, .ref C2, _, _, _, rfl, .own C2, .base (.ins hH (hT g.k).c (hT g.k).f (hT g.k).s (hT g.k).t (hT g.k).m), hk g.k, q _ H1 _ e1 rfl z⟩
end
end G
set_option Elab.async false
set_option linter.all false
set_option maxRecDepth 100000
set_option maxHeartbeats 2000000
namespace G
open PySem PySem.Spec PyProof.Rows L2 StX
end G
set_option Elab.async false
set_option linter.all false
set_option maxRecDepth 100000
set_option maxHeartbeats 2000000
namespace G
open PySem PySem.Spec PyProof.Rows L2 StX
/-- nothing or one new thing -/
def Nw (H H' : Hp) : Prop := H' = H ∨ ∃ t o, H t = none ∧ H' = upd H t o
theorem Nw.gr {H H' : Hp} (h : Nw H H') {a : Addr} {o : HO} (e : H a = some o) : H' a = some o := by
  rcases h with rfl | ⟨t, u, ht, rfl⟩
  · exact e
  · rw [upd_ne (ne_of_none e ht)]
    exact e
theorem Nw.ext {W : Wd} {H H' : Hp} (h : Nw H H') (o : W.ok H) : Ext W H H' := by
  rcases h with rfl | ⟨t, u, ht, rfl⟩
  · exact Ext.refl o
  · exact Ext.new o ht
theorem Nw.kp {W : Wc} {H H' : Hp} (h : Nw H H') : Kp W H H' := fun _ _ _ e => h.gr e
/-- an iteration over as, begun at H1 -/
structure ItOk {α : Type} [Rep α] (W : Wd) (H1 : Hp) (J : It) (as : List α) : Prop where
  go : ∀ i H', Kp W.toWc H1 H' → i < as.length → J.go i H'
  stop : ∀ H', Kp W.toWc H1 H' → J.stop as.length H'
  yld : ∀ i H' x H'', Kp W.toWc H1 H' → (∀ a, W.mu a → ∃ o, H' a = some o) → i < as.length → J.yld i H' x H'' → ∃ a, as[i]? = some a ∧ Nw H' H'' ∧ den W.toWc H'' x a ∧ ∀ D o, H1 D = none → H' D = some o → den (W.toWc.plus D) H'' x a
def EvI {α : Type} [Rep α] (W : Wd) (wi : TI) (Γ : Gam) (k : List α → Prop) : Prop :=
  ∀ σ H (R : It → Hp → Prop), GOk W H σ Γ → (∀ J H1 (as : List α), Ext W H H1 → ItOk W H1 J as → k as → R J H1) → wi σ H R
section
variable {W : Wd} {Γ : Gam} {ta : TA} {te tl : TE} {tt tt2 : TT} {g g2 : TG} {wi wi2 : TI} {K : PySem.W.Frag}
theorem ei_rng1 {k : List Int → Prop} (h : EvK W te Γ fun m : Int => (-(2 ^ 62) ≤ m ∧ m < 2 ^ 62) ∧ k ((List.range m.toNat).map fun i : Nat => (i : Int))) : EvI W (iRng1 (tCons te tNil)) Γ k := by
  refine fun σ H R G c => h σ H _ G fun v H1 m e1 hv ⟨⟨b1, b2⟩, z⟩ => ⟨m, congrArg (fun x => [x]) hv, b1, b2, c _ H1 _ e1 ⟨?_, ?_, ?_⟩ z⟩
  · intro i H' kp hi
    rw [List.length_map, List.length_range] at hi
    exact hi
  · intro H' kp
    show m.toNat ≤ _
    rw [List.length_map, List.length_range]
    exact Nat.le_refl _
  · rintro i H' x H'' kp _ hi ⟨rfl, hx⟩
    rw [List.length_map, List.length_range] at hi
    have hx' : x = V.int (i : Nat) := by rw [hx, Int.zero_add]
    exact ⟨(i : Int), by rw [List.getElem?_map, List.getElem?_range hi]; rfl, .inl rfl, hx', fun D o _ _ => hx'⟩
end
section
variable {W : Wd} {Γ : Gam} {te ta tb : TE} {K : PySem.W.Frag}
/-- data that is not None -/
class NotNon (α : Type) [Rep α] : Prop where
  no : ∀ {W : Wc} {H : Hp} {v : V} {a : α}, den W H v a → v ≠ .non
instance : NotNon Int := ⟨fun h e => by have h : _ = V.int _ := h; rw [h] at e; cases e⟩
instance : NotNon Str := ⟨fun h e => by have h : _ = V.str _ := h; rw [h] at e; cases e⟩
end
section
variable {W : Wd} {Γ : Gam} {ta : TE} {K : PySem.W.Frag}
theorem ev_ixT3a {α β γ : Type} {rα : Rep α} {rβ : Rep β} {rγ : Rep γ} {k : α → Prop} (hK : W.B.K = K) (h : EvK W ta Γ fun p : T3 α β γ => k p.a) : EvK W (tOp (rIxT K) ta (tC (.int 0))) Γ k := by
  subst hK
  refine fun σ H Q E c => h σ H _ E fun v H1 a e1 ⟨p, x, y, z, hv, s, d1, d2, d3⟩ q => ?_
  exact ⟨p, _, 0, x, hv, rfl, s.sq, rfl, c _ H1 _ e1 d1 q⟩
theorem ev_ixT3b {α β γ : Type} {rα : Rep α} {rβ : Rep β} {rγ : Rep γ} {k : β → Prop} (hK : W.B.K = K) (h : EvK W ta Γ fun p : T3 α β γ => k p.b) : EvK W (tOp (rIxT K) ta (tC (.int 1))) Γ k := by
  subst hK
  refine fun σ H Q E c => h σ H _ E fun v H1 a e1 ⟨p, x, y, z, hv, s, d1, d2, d3⟩ q => ?_
  exact ⟨p, _, 1, y, hv, rfl, s.sq, rfl, c _ H1 _ e1 d2 q⟩
end
end G
set_option Elab.async false
set_option linter.all false
set_option maxRecDepth 100000
set_option maxHeartbeats 2000000
namespace G
open PySem PySem.Spec PyProof.Rows L2 StX
structure Dc (β : Type) where
  l : List (Str × β)
inductive Dk {β : Type} (f : V → β → Prop) : List (Key × V) → List (Str × β) → Prop
  | nil : Dk f [] []
  | cons {k : Str} {v : V} {b : β} {r : List (Key × V)} {s : List (Str × β)} : f v b → Dk f r s → Dk f ((.inr k, v) :: r) ((k, b) :: s)
theorem Dk.imp {β : Type} {f g : V → β → Prop} (h : ∀ v b, f v b → g v b) : ∀ {kvs : List (Key × V)} {l : List (Str × β)}, Dk f kvs l → Dk g kvs l
  | _, _, .nil => .nil
  | _, _, .cons a r => .cons (h _ _ a) (r.imp h)
theorem Dk.length {β : Type} {f : V → β → Prop} : ∀ {kvs : List (Key × V)} {l : List (Str × β)}, Dk f kvs l → kvs.length = l.length
  | _, _, .nil => rfl
  | _, _, .cons _ r => congrArg (· + 1) r.length
def getDc {β : Type} (l : List (Str × β)) (k : Str) : Option β := (l.find? fun e => decide (e.1 = k)).map (·.2)
def putDc {β : Type} (l : List (Str × β)) (k : Str) (b : β) : List (Str × β) := if (l.any fun e => decide (e.1 = k)) = true then l.map (fun e => if e.1 = k then (e.1, b) else e) else l ++ [(k, b)]
theorem inr_iff {a k : Str} : ((Sum.inr a : Key) = Sum.inr k) ↔ a = k := ⟨fun h => by injection h, fun h => by rw [h]⟩
theorem Dk.get {β : Type} {f : V → β → Prop} (k : Str) : ∀ {kvs : List (Key × V)} {l : List (Str × β)}, Dk f kvs l → (valV kvs (Sum.inr k : Key) = none ∧ getDc l k = none) ∨ ∃ v b, valV kvs (Sum.inr k : Key) = some v ∧ getDc l k = some b ∧ f v b
  | _, _, .nil => .inl ⟨rfl, rfl⟩
  | _, _, .cons (k := a) (v := v) (b := b) (r := r) (s := s) h t => by
    by_cases e : a = k
    · exact .inr ⟨v, b, valV_pos (p := ((Sum.inr a : Key), v)) (inr_iff.mpr e), by unfold getDc; rw [List.find?_cons_of_pos (by exact decide_eq_true e)]; rfl, h⟩
    · have e1 : valV (((Sum.inr a : Key), v) :: r) (Sum.inr k : Key) = valV r (Sum.inr k : Key) := valV_neg (p := ((Sum.inr a : Key), v)) (fun z => e (inr_iff.mp z))
      have e2 : getDc ((a, b) :: s) k = getDc s k := by unfold getDc; rw [List.find?_cons_of_neg (by rw [decide_eq_true_iff]; exact e)]
      rw [e1, e2]
      exact t.get k
theorem Dk.any {β : Type} {f : V → β → Prop} (k : Str) : ∀ {kvs : List (Key × V)} {l : List (Str × β)}, Dk f kvs l → (kvs.any fun kv => decide (kv.1 = (.inr k : Key))) = l.any fun e => decide (e.1 = k)
  | _, _, .nil => rfl
  | _, _, .cons (k := a) _ t => by
    rw [List.any_cons, List.any_cons, t.any k]
    congr 1
    exact decide_eq_decide.mpr inr_iff
theorem Dk.map {β : Type} {f : V → β → Prop} (k : Str) {v : V} {b : β} (h : f v b) : ∀ {kvs : List (Key × V)} {l : List (Str × β)}, Dk f kvs l → Dk f (kvs.map fun kv => if kv.1 = (.inr k : Key) then (kv.1, v) else kv) (l.map fun e => if e.1 = k then (e.1, b) else e)
  | _, _, .nil => .nil
  | _, _, .cons (k := a) h2 t => by
    rw [List.map_cons, List.map_cons]
    by_cases e : a = k
    · rw [if_pos (inr_iff.mpr e), if_pos e]
      exact .cons h (t.map k h)
    · rw [if_neg (fun z => e (inr_iff.mp z)), if_neg e]
      exact .cons h2 (t.map k h)
theorem Dk.snoc {β : Type} {f : V → β → Prop} {k : Str} {v : V} {b : β} (h : f v b) : ∀ {kvs : List (Key × V)} {l : List (Str × β)}, Dk f kvs l → Dk f (kvs ++ [(.inr k, v)]) (l ++ [(k, b)])
  | _, _, .nil => .cons h .nil
  | _, _, .cons h2 t => .cons h2 (t.snoc h)
theorem Dk.put {β : Type} {f : V → β → Prop} {k : Str} {v : V} {b : β} (h : f v b) {kvs : List (Key × V)} {l : List (Str × β)} (t : Dk f kvs l) : Dk f (putK kvs (.inr k) v) (putDc l k b) := by
  unfold putK putDc
  rw [t.any k]
  split
  · exact t.map k h
  · exact t.snoc h
instance {β : Type} [Rep β] : Rep (Dc β) :=
  ⟨fun W H v d => ∃ p kvs, v = .ref p ∧ (¬ W.mu p ∧ H p = some (.dK kvs)) ∧ Dk (den W H) kvs d.l,
   fun e ⟨p, kvs, hv, hp, h⟩ => ⟨p, kvs, hv, ⟨hp.1, e _ _ hp.1 hp.2⟩, h.imp fun _ _ d => Rep.mono e d⟩,
   fun D n ⟨p, kvs, hv, hp, h⟩ => ⟨p, kvs, hv, ⟨mu_grow n hp.1 hp.2, hp.2⟩, h.imp fun _ _ d => Rep.grow D n d⟩,
   fun D ⟨p, kvs, hv, hp, h⟩ => ⟨p, kvs, hv, ⟨fun z => hp.1 (.inl z), hp.2⟩, h.imp fun _ _ d => Rep.shrink D d⟩⟩
section
variable {W : Wd} {Γ : Gam} {td ty : TE}
theorem dget_ex {β : Type} [Rep β] {W : Wc} {H : Hp} {v : V} {d : Dc β} (k : Str) (h : den W H v d) : ∃ p o, v = .ref p ∧ DGet H p (.str k) o ∧ ((o = none ∧ getDc d.l k = none) ∨ ∃ u b, o = some u ∧ getDc d.l k = some b ∧ den W H u b) := by
  obtain ⟨p, kvs, hv, hp, hd⟩ := h
  refine ⟨p, _, hv, .inl ⟨kvs, .inr k, .inl hp.2, rfl, rfl⟩, ?_⟩
  rcases hd.get k with ⟨e1, e2⟩ | ⟨u, b, e1, e2, e3⟩
  · exact .inl ⟨e1, e2⟩
  · exact .inr ⟨u, b, e1, e2, e3⟩
theorem ev_dnotin {β : Type} {rβ : Rep β} {k : Bool → Prop} (h : EvK W ty Γ fun s : Str => EvK W td Γ fun d : Dc β => k (!(getDc d.l s).isSome)) : EvK W (tDNotIn ty td) Γ k := fun σ H Q E c =>
  h σ H _ E fun x H1 s e1 dx h2 => h2 σ H1 _ (E.ext e1) fun y H2 d e2 dy z => by
    obtain ⟨p, o, hv, hg, ho⟩ := dget_ex s dy
    have dx : x = .str s := dx
    refine ⟨p, o, hv, by rw [dx]; exact hg, ?_⟩
    have : o.isSome = (getDc d.l s).isSome := by
      rcases ho with ⟨e3, e4⟩ | ⟨u, b, e3, e4, _⟩
      · rw [e3, e4]; rfl
      · rw [e3, e4]; rfl
    rw [this]
    exact c _ H2 _ (e1.trans e2) rfl z
theorem ev_dget {β : Type} {rβ : Rep β} {k : β → Prop} (h : EvK W td Γ fun d : Dc β => EvK W ty Γ fun s : Str => ∃ b, getDc d.l s = some b ∧ k b) : EvK W (tDGet td ty) Γ k := fun σ H Q E c =>
  h σ H _ E fun x H1 d e1 dx h2 => h2 σ H1 _ (E.ext e1) fun y H2 s e2 dy ⟨b, hb, z⟩ => by
    obtain ⟨p, o, hv, hg, ho⟩ := dget_ex s (Rep.mono (α := Dc β) e2.keep dx)
    have dy : y = .str s := dy
    rcases ho with ⟨_, e4⟩ | ⟨u, b', e3, e4, e5⟩
    · rw [hb] at e4; cases e4
    · rw [hb] at e4
      cases e4
      exact ⟨p, u, hv, by rw [dy, ← e3]; exact hg, c _ H2 _ (e1.trans e2) e5 z⟩
end
abbrev OwnH := List (Addr × HO)
abbrev keysH (L : OwnH) : List Addr := L.map (·.1)
def Wd.ownH (W : Wd) (F : Hp) (L : OwnH) (oF : W.ok F) (nF : ∀ k ∈ keysH L, F k = none) : Wd where
  toWc := W.toWc.plusL (keysH L)
  ok := fun H => W.ok H ∧ ∀ x ∈ L, H x.1 = some x.2
  live := fun H a ⟨h, e⟩ m => by
    rcases plusL_mu.mp m with m | m
    · exact W.live H a h m
    · obtain ⟨x, hx, rfl⟩ := List.mem_map.mp m
      exact ⟨_, e x hx⟩
  st := fun H p o ⟨h, e⟩ m => ⟨W.st H p o h fun z => m (plusL_mu.mpr (.inl z)), fun x hx => by
    have hne : x.1 ≠ p := fun z => m (plusL_mu.mpr (.inr (by rw [← z]; exact List.mem_map.mpr ⟨x, hx, rfl⟩)))
    rw [upd_ne hne]
    exact e x hx⟩
  wish := fun H => Kp W.toWc F H
  wst := fun H H' k _ w a o m e => k a o (fun z => (plusL_mu.mp z).elim m fun z => by rw [nF a z] at e; cases e) (w a o m e)
  hasbox := fun H b ⟨h, _⟩ hb => W.hasbox H b h (by rw [plusL_box] at hb; exact hb)
  boxset := fun H b c i p s i' p' s' ⟨h, e⟩ hb q h1 h2 => by
    rw [plusL_box] at hb
    refine ⟨W.boxset H b c i p s i' p' s' h hb q h1 h2, fun x hx => ?_⟩
    have z : x.1 ≠ b := fun z => by
      have h3 := nF x.1 (List.mem_map.mpr ⟨x, hx, rfl⟩)
      rw [z] at h3
      exact fresh_mu oF h3 (W.boxmu b hb)
    rw [upd_ne z]
    exact e x hx
  boxmu := fun b hb => plusL_mu.mpr (.inl (W.boxmu b (by rw [plusL_box] at hb; exact hb)))
  oke := fun H H' ⟨h, e⟩ k => ⟨W.oke H H' h k, fun x hx => k _ _ (e x hx)⟩
/-- the world Wo is W with the own lists L kept apart -/
structure OwnHW (W : Wd) (L : OwnH) (Wo : Wd) : Prop where
  B : Wo.B = W.B
  pin : ∀ H, Wo.ok H → ∀ x ∈ L, H x.1 = some x.2
  err : ∀ (E : XK) (x : Xn → Prop), (∀ H', W.ok H' → W.wish H' → XOk W H' E x) → ∀ H', Wo.ok H' → Wo.wish H' → XOk Wo H' E x
  okd : ∀ H, Wo.ok H → W.ok H
section
variable {W : Wd} {F : Hp} {L L' : OwnH} {oF : W.ok F} {nF : ∀ k ∈ keysH L, F k = none}
theorem ownH_ext {H H' : Hp} (o : (W.ownH F L oF nF).ok H) (e : Ext (W.ownH F L oF nF) H H') : Ext W H H' := ⟨fun a u m z => by
  by_cases h : a ∈ keysH L
  · obtain ⟨x, hx, rfl⟩ := List.mem_map.mp h
    have h1 := o.2 x hx
    have h2 := e.ok.2 x hx
    rw [h1] at z
    cases z
    exact h2
  · exact e.keep a u (fun z => (plusL_mu.mp z).elim m h) z, e.ok.1⟩
theorem xdenLH {H : Hp} {d : Option Addr} {fs : List (Str × Fv)} {ks : List Addr} (h : xden (W.toWc.plusL ks) H d fs) : xden W.toWc H d fs :=
  h.imp (fun h => h) fun ⟨dd, vs, h1, h2, h3, h4⟩ => ⟨dd, vs, h1, fun z => h2 (plusL_mu.mpr (.inl z)), h3, h4.imp fun _ _ z => fshrinkL z⟩
theorem ownH_w (wF : W.wish F) : OwnHW W L (W.ownH F L oF nF) := by
  refine ⟨plusL_B, fun H o x hx => o.2 x hx, fun E x h H' o w n d H2 e xd xn => ?_, fun H o => o.1⟩
  have wH : W.wish H' := W.wst F H' w o.1 wF
  have := h H' o.1 wH n d H2 (ownH_ext o e) (xdenLH xd) xn
  have hB : (W.ownH F L oF nF).B = W.B := plusL_B
  rw [hB]
  exact this
end
/-- from L at H to L' at H' -/
def StpH (W : Wd) (L : OwnH) (H : Hp) (L' : OwnH) (H' : Hp) : Prop := Kp (W.toWc.plusL (keysH L)) H H' ∧ ∀ k ∈ keysH L', k ∈ keysH L ∨ H k = none
theorem StpH.refl {W : Wd} {L : OwnH} {H : Hp} : StpH W L H L H := ⟨fun _ _ _ z => z, fun _ h => .inl h⟩
theorem StpH.trans {W : Wd} {L L1 L2 : OwnH} {H H1 H2 : Hp} (o1 : W.ok H1) (a : StpH W L H L1 H1) (b : StpH W L1 H1 L2 H2) : StpH W L H L2 H2 := by
  refine ⟨fun x o m z => b.1 x o (fun q => ?_) (a.1 x o m z), fun k hk => ?_⟩
  · rcases plusL_mu.mp q with q | q
    · exact m (plusL_mu.mpr (.inl q))
    · rcases a.2 x q with q | q
      · exact m (plusL_mu.mpr (.inr q))
      · rw [q] at z; cases z
  · rcases b.2 k hk with h | h
    · exact a.2 k h
    · by_cases hm : k ∈ keysH L
      · exact .inl hm
      · refine .inr ?_
        cases q : H k with
        | none => rfl
        | some u =>
          by_cases hw : W.mu k
          · obtain ⟨o, e⟩ := W.live H1 k o1 hw
            rw [h] at e; cases e
          · rw [a.1 k u (fun z => (plusL_mu.mp z).elim hw hm) q] at h
            cases h
structure PoH where
  nx : OwnH → Gam → Prop
  rt : Ty → Prop
  bk : OwnH → Gam → Prop := fun _ _ => False
  ct : OwnH → Gam → Prop := fun _ _ => False
structure EOkH (W : Wd) (F : Hp) (L : OwnH) (H : Hp) (D : Ends) (R : PoH) : Prop where
  nx : ∀ L' oF nF σ' H' Γ', StpH W L H L' H' → (keysH L').Nodup → GOk (W.ownH F L' oF nF) H' σ' Γ' → R.nx L' Γ' → D.nx σ' H'
  rt : ∀ v H' (t : Ty), Ext W F H' → t.den W H' v → R.rt t → D.rt v H'
  bk : ∀ L' oF nF σ' H' Γ', StpH W L H L' H' → (keysH L').Nodup → GOk (W.ownH F L' oF nF) H' σ' Γ' → R.bk L' Γ' → D.bk σ' H'
  ct : ∀ L' oF nF σ' H' Γ', StpH W L H L' H' → (keysH L').Nodup → GOk (W.ownH F L' oF nF) H' σ' Γ' → R.ct L' Γ' → D.ct σ' H'
theorem EOkH.step {W : Wd} {F : Hp} {L L1 : OwnH} {H H1 : Hp} {D : Ends} {R : PoH} (h : EOkH W F L H D R) (o1 : W.ok H1) (s : StpH W L H L1 H1) : EOkH W F L1 H1 D R :=
  ⟨fun L' oF nF σ' H' Γ' s' => h.nx L' oF nF σ' H' Γ' (s.trans o1 s'), h.rt, fun L' oF nF σ' H' Γ' s' => h.bk L' oF nF σ' H' Γ' (s.trans o1 s'), fun L' oF nF σ' H' Γ' s' => h.ct L' oF nF σ' H' Γ' (s.trans o1 s')⟩
/-- a statement in a def with own lists L; F: the heap ahead of the first of them -/
def SxH (W : Wd) (F : Hp) (t : TS) (L : OwnH) (Γ : Gam) (R : PoH) : Prop :=
  ∀ D σ H oF nF, W.wish F → (keysH L).Nodup → GOk (W.ownH F L oF nF) H σ Γ → EOkH W F L H D R → t D σ H
theorem ownH_gok_nil {W : Wd} {F H : Hp} {σ : L2.St} {Γ : Gam} {oF : W.ok F} {nF : ∀ k ∈ keysH [], F k = none} (k : Kp W.toWc F H) (G : GOk W H σ Γ) : GOk (W.ownH F [] oF nF) H σ Γ := ⟨⟨G.ok, fun _ h => nomatch h⟩, k, G.at_, G.len⟩
theorem ownH_gok_out {W : Wd} {F H : Hp} {L : OwnH} {σ : L2.St} {Γ : Gam} {oF : W.ok F} {nF : ∀ k ∈ keysH L, F k = none} (wF : W.wish F) (G : GOk (W.ownH F L oF nF) H σ Γ) : GOk W H σ Γ :=
  ⟨G.ok.1, W.wst F H G.wish G.ok.1 wF, fun i t h => let ⟨v, h1, h2⟩ := G.at_ i t h; ⟨v, h1, shrinkL h2⟩, G.len⟩
theorem ownH_stp {W : Wd} {F H H' : Hp} {L : OwnH} {oF : W.ok F} {nF : ∀ k ∈ keysH L, F k = none} (e : Ext (W.ownH F L oF nF) H H') : StpH W L H L H' := ⟨e.keep, fun _ h => .inl h⟩
section
variable {W : Wd} {F : Hp} {L : OwnH} {Γ : Gam} {ta tb te : TE} {tt : TT} {t u : TS} {R : PoH} {g : TG}
/-- into the part with own lists -/
theorem sx_ownH {R : Po} (h : ∀ F, SxH W F t [] Γ { nx := fun _ => R.nx, rt := R.rt, bk := fun _ => R.bk, ct := fun _ => R.ct }) : Sx W t Γ R := fun D σ H G O =>
  h H D σ H G.ok (fun _ z => nomatch z) G.wish .nil (ownH_gok_nil (fun _ _ _ z => z) G)
    ⟨fun L' oF nF σ' H' Γ' s _ G' q => O.nx σ' H' Γ' ⟨G'.wish, G'.ok.1⟩ (ownH_gok_out G.wish G') q, fun v H' t e d q => O.rt v H' t e d q,
     fun L' oF nF σ' H' Γ' s _ G' q => O.bk σ' H' Γ' ⟨G'.wish, G'.ok.1⟩ (ownH_gok_out G.wish G') q, fun L' oF nF σ' H' Γ' s _ G' q => O.ct σ' H' Γ' ⟨G'.wish, G'.ok.1⟩ (ownH_gok_out G.wish G') q⟩
theorem eokH_un {D : Ends} {H : Hp} {oF : W.ok F} {nF : ∀ k ∈ keysH L, F k = none} (nd : (keysH L).Nodup) (O : EOkH W F L H D R) (wk : Kp W.toWc F H) (o : (W.ownH F L oF nF).ok H) : EOk (W.ownH F L oF nF) H D { nx := R.nx L, rt := R.rt, bk := R.bk L, ct := R.ct L } :=
  ⟨fun σ' H' Γ' e G q => O.nx L oF nF σ' H' Γ' (ownH_stp e) nd G q, fun v H' t e d q => O.rt v H' t (Ext.trans (W := W) ⟨wk, o.1⟩ (ownH_ext o e)) (shrinkL d) q,
   fun σ' H' Γ' e G q => O.bk L oF nF σ' H' Γ' (ownH_stp e) nd G q, fun σ' H' Γ' e G q => O.ct L oF nF σ' H' Γ' (ownH_stp e) nd G q⟩
/-- a statement that leaves the own lists -/
theorem sxh_pure (h : ∀ Wo, OwnHW W L Wo → Sx Wo t Γ { nx := R.nx L, rt := R.rt, bk := R.bk L, ct := R.ct L }) : SxH W F t L Γ R := fun D σ H oF nF wF nd G O =>
  h _ (ownH_w wF) D σ H G (eokH_un nd O G.wish G.ok)
theorem sxh_seq (h : SxH W F t L Γ { R with nx := fun L' Γ' => SxH W F u L' Γ' R }) : SxH W F (tSeq t u) L Γ R := fun D σ H oF nF wF nd G O =>
  h _ σ H oF nF wF nd G ⟨fun L' oF nF σ' H' Γ' s nd' G' q => q D σ' H' oF nF wF nd' G' (O.step G'.ok.1 s), O.rt, O.bk, O.ct⟩
theorem SxH.imp {R' : PoH} (h : SxH W F t L Γ R') (n : ∀ L Γ', R'.nx L Γ' → R.nx L Γ') (r : ∀ v, R'.rt v → R.rt v) (b : ∀ L Γ', R'.bk L Γ' → R.bk L Γ') (c : ∀ L Γ', R'.ct L Γ' → R.ct L Γ') : SxH W F t L Γ R := fun D σ H oF nF wF nd G O =>
  h D σ H oF nF wF nd G ⟨fun L' oF nF σ' H' Γ' s nd' G' q => O.nx L' oF nF σ' H' Γ' s nd' G' (n _ _ q), fun v H' t e d q => O.rt v H' t e d (r _ q), fun L' oF nF σ' H' Γ' s nd' G' q => O.bk L' oF nF σ' H' Γ' s nd' G' (b _ _ q), fun L' oF nF σ' H' Γ' s nd' G' q => O.ct L' oF nF σ' H' Γ' s nd' G' (c _ _ q)⟩
theorem sxh_seqI (I : OwnH → Gam → Prop) (h : SxH W F t L Γ { R with nx := I }) (k : ∀ L' Γ', I L' Γ' → SxH W F u L' Γ' R) : SxH W F (tSeq t u) L Γ R := sxh_seq (h.imp k (fun _ q => q) (fun _ _ q => q) fun _ _ q => q)
theorem sxh_if (h : ∀ Wo, OwnHW W L Wo → EvT Wo tt Γ fun b => (b = true → SxH W F t L Γ R) ∧ (b = false → SxH W F u L Γ R)) : SxH W F (tIfS tt t u) L Γ R := fun D σ H oF nF wF nd G O =>
  h _ (ownH_w wF) σ H _ G fun H1 b e1 ⟨h1, h2⟩ => by
    have G1 := G.ext e1
    cases b with
    | true => exact h1 rfl D σ H1 oF nF wF nd G1 (O.step G1.ok.1 (ownH_stp e1))
    | false => exact h2 rfl D σ H1 oF nF wF nd G1 (O.step G1.ok.1 (ownH_stp e1))
theorem sxh_next (q : R.nx L Γ) : SxH W F tNext L Γ R := sxh_pure fun Wo _ => sx_next q
theorem fresh_FH {H : Hp} {p : Addr} (oH : W.ok H) (wk : Kp W.toWc F H) (n : H p = none) : F p = none := by
  cases q : F p with
  | none => rfl
  | some u =>
    rw [wk p u (fresh_mu oH n) q] at n
    cases n
/-- an own dict -/
structure Od (β : Type) where
  p : Addr
  kvs : List (Key × V)
  ds : List (Str × β)
instance {β : Type} [Rep β] : Rep (Od β) :=
  ⟨fun W H v a => v = .ref a.p ∧ Dk (den W H) a.kvs a.ds, fun e h => ⟨h.1, h.2.imp fun _ _ d => Rep.mono e d⟩, fun D n h => ⟨h.1, h.2.imp fun _ _ d => Rep.grow D n d⟩, fun D h => ⟨h.1, h.2.imp fun _ _ d => Rep.shrink D d⟩⟩
theorem keysH_set {k : Nat} {p : Addr} {o o' : HO} (h : L[k]? = some (p, o)) : keysH (L.set k (p, o')) = keysH L := by
  refine List.ext_getElem? fun i => ?_
  rw [List.getElem?_map, List.getElem?_map, List.getElem?_set]
  by_cases e : k = i
  · subst e
    rw [if_pos rfl]
    have hl : k < L.length := (List.getElem?_eq_some_iff.mp h).1
    rw [if_pos hl, h]
    rfl
  · rw [if_neg e]
/-- an own thing changes at its place -/
theorem ownH_put {H : Hp} {σ : L2.St} {D : Ends} {oF : W.ok F} {nF : ∀ k ∈ keysH L, F k = none} {k i : Nat} {p : Addr} {o o' : HO} {v0 : V} (t : Ty) (nd : (keysH L).Nodup) (G : GOk (W.ownH F L oF nF) H σ Γ) (O : EOkH W F L H D R)
    (hk : L[k]? = some (p, o)) (hi : σ[i]? = some (some v0)) (hb : Kp (W.toWc.plusL (keysH L)) H (upd H p o') → t.den (W.toWc.plusL (keysH L)) (upd H p o') v0) (q : R.nx (L.set k (p, o')) (Γ.set i (some t))) : D.nx σ (upd H p o') := by
  have hks : keysH (L.set k (p, o')) = keysH L := keysH_set hk
  have hmem : p ∈ keysH L := List.mem_map.mpr ⟨_, List.mem_of_getElem? hk, rfl⟩
  have kp : Kp (W.toWc.plusL (keysH L)) H (upd H p o') := fun b u m z => by
    have hne : b ≠ p := fun e => m (plusL_mu.mpr (.inr (by rw [e]; exact hmem)))
    rw [upd_ne hne]
    exact z
  have nF' : ∀ k' ∈ keysH (L.set k (p, o')), F k' = none := fun k' h => nF k' (by rw [hks] at h; exact h)
  have nmu : ¬ W.mu p := fresh_mu oF (nF p hmem)
  have s : StpH W L H (L.set k (p, o')) (upd H p o') := ⟨kp, fun k' h => .inl (by rw [hks] at h; exact h)⟩
  have hl : k < L.length := (List.getElem?_eq_some_iff.mp hk).1
  have G2 : GOk (W.ownH F (L.set k (p, o')) oF nF') (upd H p o') σ (Γ.set i (some t)) := by
    refine ⟨⟨W.st _ _ _ G.ok.1 nmu, fun x hx => ?_⟩, fun a u m z => ?_, fun j t' ht => ?_, by rw [List.length_set]; exact G.len⟩
    · obtain ⟨j, hj⟩ := List.getElem?_of_mem hx
      rw [List.getElem?_set] at hj
      by_cases e : k = j
      · rw [if_pos e, if_pos hl] at hj
        cases hj
        exact upd_same
      · rw [if_neg e] at hj
        have hne : x.1 ≠ p := fun z => by
          have h1 : (keysH L)[j]? = some p := by rw [List.getElem?_map, hj, ← z]; rfl
          have h2 : (keysH L)[k]? = some p := by rw [List.getElem?_map, hk]; rfl
          exact e ((List.getElem?_inj (by rw [List.length_map]; exact hl) nd).mp (h2.trans h1.symm))
        rw [upd_ne hne]
        exact G.ok.2 x (List.mem_of_getElem? hj)
    · have hne : a ≠ p := fun e => by rw [e, nF p hmem] at z; cases z
      rw [upd_ne hne]
      exact G.wish a u m z
    · show ∃ v, σ[j]? = some (some v) ∧ t'.den (W.toWc.plusL (keysH (L.set k (p, o')))) _ v
      rw [hks]
      by_cases e : i = j
      · subst e
        have hl2 : i < Γ.length := by
          have := (List.getElem?_eq_some_iff.mp hi).1
          rw [G.len] at this
          exact this
        rw [List.getElem?_set_self hl2] at ht
        cases ht
        exact ⟨_, hi, hb kp⟩
      · rw [List.getElem?_set_ne e] at ht
        obtain ⟨v, h1, h2⟩ := G.at_ j t' ht
        exact ⟨v, h1, Ty.mono kp h2⟩
  exact O.nx _ oF nF' σ _ _ s (by rw [hks]; exact nd) G2 q
/-- x = a new thing, from now on an own one -/
theorem newH {H H1 : Hp} {σ : L2.St} {D : Ends} {oF : W.ok F} {nF : ∀ k ∈ keysH L, F k = none} {i : Nat} {p : Addr} {o : HO} (t : Ty) (nd : (keysH L).Nodup) (G : GOk (W.ownH F L oF nF) H σ Γ) (O : EOkH W F L H D R)
    (n : H p = none) (e : Ext (W.ownH F L oF nF) H H1) (hp : H1 p = some o) (ht : t.den (W.toWc.plusL (keysH ((p, o) :: L))) H1 (.ref p)) (q : R.nx ((p, o) :: L) (Γ.set i (some t))) : D.nx (σ.set i (some (.ref p))) H1 := by
  have nFp : F p = none := fresh_FH G.ok.1 G.wish n
  have hpk : p ∉ keysH L := fun hk => by
    obtain ⟨x, hx, e1⟩ := List.mem_map.mp hk
    have := G.ok.2 x hx
    rw [e1, n] at this
    cases this
  have nF' : ∀ k ∈ keysH ((p, o) :: L), F k = none := fun k hk => by
    rcases List.mem_cons.mp hk with rfl | hk
    · exact nFp
    · exact nF k hk
  have s : StpH W L H ((p, o) :: L) H1 := ⟨e.keep, fun k hk => by
    rcases List.mem_cons.mp hk with rfl | hk
    · exact .inr n
    · exact .inl hk⟩
  have G1 := G.ext e
  have kp : Kp ((W.toWc.plusL (keysH L)).plus p) H H1 := fun b u m z => e.keep b u (fun z => m (.inl z)) z
  have G2 : GOk (W.ownH F ((p, o) :: L) oF nF') H1 σ Γ := ⟨⟨G1.ok.1, fun x hx => by
    rcases List.mem_cons.mp hx with rfl | hx
    · exact hp
    · exact G1.ok.2 x hx⟩, G1.wish, fun j t ht => by
      obtain ⟨v, h1, h2⟩ := G.at_ j t ht
      exact ⟨v, h1, Ty.mono kp (t.r.grow p n h2)⟩, G.len⟩
  exact O.nx _ oF nF' _ H1 _ s (List.nodup_cons.mpr ⟨hpk, nd⟩) (G2.set i (t := t) ht) q
theorem sxh_newL {β : Type} {rβ : Rep β} {i : Nat} (h : ∀ Wo, OwnHW W L Wo → EvF Wo te Γ fun bs : List β => ∀ p vs, R.nx ((p, .lst vs) :: L) (Γ.set i (some (T (Ol.mk p vs bs))))) : SxH W F (tAsg te (gName i)) L Γ R := fun D σ H oF nF wF nd G O =>
  h _ (ownH_w wF) σ H _ G fun p H1 vs bs n e hp hb q => newH (T (Ol.mk p vs bs)) nd G O n e hp ⟨rfl, hb⟩ (q p vs)
theorem sxh_newD (β : Type) {rβ : Rep β} {i : Nat} (q : ∀ p, R.nx ((p, .dK []) :: L) (Γ.set i (some (T (Od.mk p [] ([] : List (Str × β))))))) : SxH W F (tAsg tDNewK (gName i)) L Γ R := fun D σ H oF nF wF nd G O p hp =>
  newH (T (Od.mk p [] ([] : List (Str × β)))) nd G O hp (Ext.new G.ok hp) upd_same ⟨rfl, .nil⟩ (q p)
theorem od_at {Wo : Wd} {H : Hp} {σ : L2.St} {β : Type} {rβ : Rep β} {i : Nat} {p : Addr} {kvs : List (Key × V)} {ds : List (Str × β)} (G : GOk Wo H σ Γ) (h : Γ[i]? = some (some (T (Od.mk p kvs ds)))) : σ[i]? = some (some (.ref p)) ∧ Dk (den Wo H) kvs ds := by
  obtain ⟨v, h1, h2, h3⟩ := G.at_ i _ h
  subst h2
  exact ⟨h1, h3⟩
/-- d[k] = e, d an own dict -/
theorem sxh_dput {β : Type} {rβ : Rep β} {i : Nat} (n : Nat) {ty tv : TE} {p : Addr} {kvs : List (Key × V)} {ds : List (Str × β)} (hk : L[n]? = some (p, .dK kvs)) (hi : Γ[i]? = some (some (T (Od.mk p kvs ds))))
    (h : ∀ Wo, OwnHW W L Wo → EvK Wo tv Γ fun b : β => EvK Wo ty Γ fun k : Str => ds.length < 100000 ∧ ∀ kvs', R.nx (L.set n (p, .dK kvs')) (Γ.set i (some (T (Od.mk p kvs' (putDc ds k b)))))) : SxH W F (sDPut (tVar i) ty tv) L Γ R := fun D σ H oF nF wF nd G O => by
  refine h _ (ownH_w wF) σ H _ G fun v H1 b e1 dv h2 => ?_
  have G1 := G.ext e1
  obtain ⟨h1, h3⟩ := od_at G1 hi
  refine ⟨_, h1, ?_⟩
  refine h2 σ H1 _ G1 fun y H2 k e2 dy ⟨hlen, q⟩ => ?_
  have G2 := G1.ext e2
  obtain ⟨_, h5⟩ := od_at G2 hi
  have dy : y = .str k := dy
  have hp := G2.ok.2 _ (List.mem_of_getElem? hk)
  refine ⟨p, _, rfl, .inl ⟨kvs, .inr k, hp, dy, ?_, rfl⟩, ?_⟩
  · exact Nat.lt_of_lt_of_le (by rw [h5.length]; exact hlen) (by decide : 100000 ≤ sizeLine)
  · exact ownH_put (T (Od.mk p _ (putDc ds k b))) nd G2 (O.step G2.ok.1 (ownH_stp (e1.trans e2))) hk h1 (fun kp => ⟨rfl, (h5.put (Rep.mono e2.keep dv)).imp fun _ _ d => Rep.mono kp d⟩) (q _)
/-- for x in a list, with own lists -/
theorem sxh_forL {α : Type} {rα : Rep α} {K : PySem.W.Frag} (hK : W.B.K = K) (h : ∀ Wo, OwnHW W L Wo → EvK Wo te Γ fun as : List α => ∃ I : Nat → OwnH → Gam → Prop, I 0 L Γ ∧
      (∀ i L' Γ', I i L' Γ' → keysH L' = keysH L) ∧
      (∀ (i : Nat) (a : α) L' Γ', as[i]? = some a → I i L' Γ' → ∀ Wo', OwnHW W L' Wo' → Tg Wo' g Γ' a fun Γ1 => SxH W F t L' Γ1 { R with nx := I (i + 1), ct := I (i + 1), bk := R.nx }) ∧ ∀ L' Γ', I as.length L' Γ' → R.nx L' Γ') : SxH W F (tFor (iList K te) g t) L Γ R := by
  subst hK
  refine fun D σ H oF nF wF nd G O => h _ (ownH_w wF) σ H _ G fun v H1 as e1 ⟨p, vs, hv, hp, hd⟩ ⟨I, h0, hI, hs, hl⟩ => ?_
  have hB : (W.ownH F L oF nF).B.K = W.B.K := congrArg Bs.K plusL_B
  have G1 := G.ext e1
  have O1 := O.step G1.ok.1 (ownH_stp e1)
  have sq : ∀ H', Kp (W.toWc.plusL (keysH L)) H1 H' → SqL W.B.K H' p vs := fun H' kk => .inl (.inl (kk _ _ hp.1 hp.2))
  refine ⟨p, hv, ⟨vs, sq H1 fun _ _ _ z => z⟩, for_list (K := W.B.K) (a := p) (xs := vs) (fun i σ' H' => ∃ L' oF nF Γ', StpH W L H1 L' H' ∧ (keysH L').Nodup ∧ GOk (W.ownH F L' oF nF) H' σ' Γ' ∧ I i L' Γ') ⟨L, oF, nF, Γ, .refl, nd, G1, h0⟩ (fun i σ' H' _ ⟨L', _, _, Γ', s, _⟩ => sq H' s.1) ?_ ?_⟩
  · rintro i x σ' H' hx ⟨L', oF', nF', Γ', s, nd', G', q⟩
    obtain ⟨a, ha, da⟩ := (hd.imp fun _ _ d => Rep.mono s.1 d).at hx
    obtain ⟨js, hj⟩ := hs i a L' Γ' ha q _ (ownH_w (oF := oF') (nF := nF') wF)
    have da' : den (W.ownH F L' oF' nF').toWc H' x a := by
      show den (W.toWc.plusL (keysH L')) H' x a
      rw [hI i L' Γ' q]
      exact da
    refine hj σ' H' x _ G' da' fun σ2 Γ2 G2 _ q2 => ?_
    exact q2 _ σ2 H' oF' nF' wF nd' G2 ⟨fun L3 oF3 nF3 σ3 H3 Γ3 s3 nd3 G3 q3 => ⟨L3, oF3, nF3, Γ3, s.trans G'.ok.1 s3, nd3, G3, q3⟩, fun v3 H3 t3 e3 d3 q3 => O.rt v3 H3 t3 e3 d3 q3,
      fun L3 oF3 nF3 σ3 H3 Γ3 s3 nd3 G3 q3 => O1.nx L3 oF3 nF3 σ3 H3 Γ3 (s.trans G'.ok.1 s3) nd3 G3 q3, fun L3 oF3 nF3 σ3 H3 Γ3 s3 nd3 G3 q3 => ⟨L3, oF3, nF3, Γ3, s.trans G'.ok.1 s3, nd3, G3, q3⟩⟩
  · rintro σ' H' ⟨L', oF', nF', Γ', s, nd', G', q⟩
    rw [hd.length] at q
    exact O1.nx L' oF' nF' σ' H' Γ' s nd' G' (hl L' Γ' q)
/-- xs.append(e), xs an own list -/
theorem sxh_append {α : Type} {rα : Rep α} {K : PySem.W.Frag} {i : Nat} (k : Nat) {p : Addr} {vs : List V} {as : List α} (hk : L[k]? = some (p, .lst vs)) (hi : Γ[i]? = some (some (T (Ol.mk p vs as))))
    (h : ∀ Wo, OwnHW W L Wo → EvK Wo te Γ fun a : α => as.length < 100000 ∧ ∀ v, R.nx (L.set k (p, .lst (vs ++ [v]))) (Γ.set i (some (T (Ol.mk p (vs ++ [v]) (as ++ [a])))))) : SxH W F (tDrop (tBM K "list" rAppend (tVar i) (tCons te tNil))) L Γ R := fun D σ H oF nF wF nd G O => by
  obtain ⟨h1, h2⟩ := ol_at G hi
  refine ⟨_, h1, .inl ⟨rfl, _, .inl (.inl (G.ok.2 _ (List.mem_of_getElem? hk)))⟩, ?_⟩
  refine h _ (ownH_w wF) σ H _ G fun v H1 a e1 d ⟨hl, q⟩ => ?_
  have G1 := G.ext e1
  refine ⟨p, vs, v, rfl, rfl, G1.ok.2 _ (List.mem_of_getElem? hk), Nat.lt_of_lt_of_le (by rw [h2.length]; exact hl) (by decide : 100000 ≤ sizeLine), ?_⟩
  exact ownH_put (T (Ol.mk p (vs ++ [v]) (as ++ [a]))) nd G1 (O.step G1.ok.1 (ownH_stp e1)) hk h1 (fun kp => ⟨rfl, (Dl.append (h2.imp fun _ _ d => Rep.mono e1.keep d) (.cons d .nil)).imp fun _ _ d => Rep.mono kp d⟩) (q v)
structure Fd (α : Type) where
  n : Str
  a : α
/-- the fields of an object; the last one that was set stands first -/
class FRep (β : Type) where
  fd : Wc → Hp → List (Str × V) → β → Prop
  mono : ∀ {W : Wc} {H H' : Hp} {fs : List (Str × V)} {b : β}, Kp W H H' → fd W H fs b → fd W H' fs b
  grow : ∀ {W : Wc} {H : Hp} {fs : List (Str × V)} {b : β} (D : Addr), H D = none → fd W H fs b → fd (W.plus D) H fs b
  shrink : ∀ {W : Wc} {H : Hp} {fs : List (Str × V)} {b : β} (D : Addr), fd (W.plus D) H fs b → fd W H fs b
  nms : β → List Str
  nm : ∀ {W : Wc} {H : Hp} {fs : List (Str × V)} {b : β}, fd W H fs b → fs.map (·.1) = nms b
instance frepU : FRep Unit := ⟨fun _ _ fs _ => fs = [], fun _ h => h, fun _ _ h => h, fun _ h => h, fun _ => [], fun h => by rw [h]; rfl⟩
instance frepP {α β : Type} [Rep α] [FRep β] : FRep (Fd α × β) :=
  ⟨fun W H fs b => ∃ v r, fs = r ++ [(b.1.n, v)] ∧ den W H v b.1.a ∧ FRep.fd W H r b.2,
   fun e ⟨v, r, h1, h2, h3⟩ => ⟨v, r, h1, Rep.mono e h2, FRep.mono e h3⟩,
   fun D n ⟨v, r, h1, h2, h3⟩ => ⟨v, r, h1, Rep.grow D n h2, FRep.grow D n h3⟩,
   fun D ⟨v, r, h1, h2, h3⟩ => ⟨v, r, h1, Rep.shrink D h2, FRep.shrink D h3⟩,
   fun b => FRep.nms b.2 ++ [b.1.n],
   fun ⟨v, r, h1, h2, h3⟩ => by rw [h1, List.map_append, FRep.nm h3]; rfl⟩
structure Oi (β : Type) where
  p : Addr
  c : Cn
  dx : Addr
  fs : List (Str × V)
  b : β
instance {β : Type} [FRep β] : Rep (Oi β) :=
  ⟨fun W H v o => v = .ref o.p ∧ FRep.fd W H o.fs o.b, fun e h => ⟨h.1, FRep.mono e h.2⟩, fun D n h => ⟨h.1, FRep.grow D n h.2⟩, fun D h => ⟨h.1, FRep.shrink D h.2⟩⟩
theorem fshrinkO {β : Type} [FRep β] {W : Wc} {H : Hp} {fs : List (Str × V)} {b : β} : ∀ {ks : List Addr}, FRep.fd (W.plusL ks) H fs b → FRep.fd W H fs b
  | [], h => h
  | k :: ks, h => fshrinkO (ks := ks) (FRep.shrink k h)
inductive FrzH (B : Bs) (L : OwnH) : Gam → Gam → Prop
  | nil : FrzH B L [] []
  | ownI {β : Type} {fβ : FRep β} {α : Type} {rα : Rep α} {o : Oi β} {a : α} {Γ Γ' : Gam} : (o.p, .ins (B.cl o.c) o.dx o.fs) ∈ L → (∀ (W : Wc) (H : Hp), W.B = B → ¬ W.mu o.p → H o.p = some (.ins (B.cl o.c) o.dx o.fs) → FRep.fd W H o.fs o.b → den W H (.ref o.p) a) → FrzH B L Γ Γ' → FrzH B L (some (T o) :: Γ) (some (T a) :: Γ')
  | ownJ {β : Type} {fβ : FRep β} {α : Type} {rα : Rep α} {o : Oi β} {a : α} {Γ Γ' : Gam} : (∀ (W : Wc) (H : Hp), W.B = B → (∀ x ∈ L, ¬ W.mu x.1 ∧ H x.1 = some x.2) → FRep.fd W H o.fs o.b → den W H (.ref o.p) a) → FrzH B L Γ Γ' → FrzH B L (some (T o) :: Γ) (some (T a) :: Γ')
  | ownL {α : Type} {rα : Rep α} {p : Addr} {vs : List V} {as : List α} {Γ Γ' : Gam} : (p, .lst vs) ∈ L → FrzH B L Γ Γ' → FrzH B L (some (T (Ol.mk p vs as)) :: Γ) (some (T as) :: Γ')
  | ownD {β : Type} {rβ : Rep β} {p : Addr} {kvs : List (Key × V)} {ds : List (Str × β)} {Γ Γ' : Gam} : (p, .dK kvs) ∈ L → FrzH B L Γ Γ' → FrzH B L (some (T (Od.mk p kvs ds)) :: Γ) (some (T (Dc.mk ds)) :: Γ')
  | same {t : Option Ty} {Γ Γ' : Gam} : FrzH B L Γ Γ' → FrzH B L (t :: Γ) (t :: Γ')
theorem FrzH.len {B : Bs} {Γ Γ' : Gam} (h : FrzH B L Γ Γ') : Γ.length = Γ'.length := by
  induction h with
  | nil => rfl
  | ownI _ _ _ ih => exact congrArg (· + 1) ih
  | ownJ _ _ ih => exact congrArg (· + 1) ih
  | ownL _ _ ih => exact congrArg (· + 1) ih
  | ownD _ _ ih => exact congrArg (· + 1) ih
  | same _ ih => exact congrArg (· + 1) ih
theorem frzH_slots {B : Bs} {H : Hp} {Γ Γ' : Gam} (hB : W.B = B) (nm : ∀ k ∈ keysH L, ¬ W.mu k) (pin : ∀ x ∈ L, H x.1 = some x.2) (f : FrzH B L Γ Γ') : ∀ (i : Nat) (t : Ty), Γ'[i]? = some (some t) → (∀ u v, Γ[i]? = some (some u) → u.den (W.toWc.plusL (keysH L)) H v → t.den W.toWc H v) ∧ ∃ u, Γ[i]? = some (some u) := by
  induction f with
  | nil => intro i t h; simp at h
  | @ownI β fβ α rα o a Γ Γ' hm hd _ ih =>
    intro i t h
    cases i with
    | zero =>
      have h' : some (some (T a)) = some (some t) := by simpa using h
      cases h'
      refine ⟨fun u v hu hd2 => ?_, _, rfl⟩
      have hu' : some (some (T o)) = some (some u) := by simpa using hu
      cases hu'
      obtain ⟨hv, hb⟩ := hd2
      subst hv
      exact hd W.toWc H hB (nm o.p (List.mem_map.mpr ⟨_, hm, rfl⟩)) (pin _ hm) (fshrinkO hb)
    | succ i => exact ih i t (by simpa using h)
  | @ownJ β fβ α rα o a Γ Γ' hd _ ih =>
    intro i t h
    cases i with
    | zero =>
      have h' : some (some (T a)) = some (some t) := by simpa using h
      cases h'
      refine ⟨fun u v hu hd2 => ?_, _, rfl⟩
      have hu' : some (some (T o)) = some (some u) := by simpa using hu
      cases hu'
      obtain ⟨hv, hb⟩ := hd2
      subst hv
      exact hd W.toWc H hB (fun x hx => ⟨nm x.1 (List.mem_map.mpr ⟨x, hx, rfl⟩), pin x hx⟩) (fshrinkO hb)
    | succ i => exact ih i t (by simpa using h)
  | @ownL α rα p vs as Γ Γ' hm _ ih =>
    intro i t h
    cases i with
    | zero =>
      have h' : some (some (T as)) = some (some t) := by simpa using h
      cases h'
      refine ⟨fun u v hu hd => ?_, _, rfl⟩
      have hu' : some (some (T (Ol.mk p vs as))) = some (some u) := by simpa using hu
      cases hu'
      obtain ⟨hv, hb⟩ := hd
      exact ⟨p, vs, hv, ⟨nm p (List.mem_map.mpr ⟨_, hm, rfl⟩), pin _ hm⟩, hb.imp fun _ _ d => shrinkL (t := T _) d⟩
    | succ i => exact ih i t (by simpa using h)
  | @ownD β rβ p kvs ds Γ Γ' hm _ ih =>
    intro i t h
    cases i with
    | zero =>
      have h' : some (some (T (Dc.mk ds))) = some (some t) := by simpa using h
      cases h'
      refine ⟨fun u v hu hd => ?_, _, rfl⟩
      have hu' : some (some (T (Od.mk p kvs ds))) = some (some u) := by simpa using hu
      cases hu'
      obtain ⟨hv, hb⟩ := hd
      exact ⟨p, kvs, hv, ⟨nm p (List.mem_map.mpr ⟨_, hm, rfl⟩), pin _ hm⟩, hb.imp fun _ _ d => shrinkL (t := T _) d⟩
    | succ i => exact ih i t (by simpa using h)
  | @same t0 Γ Γ' _ ih =>
    intro i t h
    cases i with
    | zero =>
      have h' : some t0 = some (some t) := by simpa using h
      cases h'
      refine ⟨fun u v hu hd => ?_, _, rfl⟩
      have hu' : some (some t) = some (some u) := by simpa using hu
      cases hu'
      exact shrinkL hd
    | succ i => exact ih i t (by simpa using h)
theorem sxh_freeze {t : TS} {Γ' : Gam} (f : FrzH W.B L Γ Γ') (h : SxH W F t [] Γ' R) : SxH W F t L Γ R := fun D σ H oF nF wF nd G O => by
  have nm : ∀ k ∈ keysH L, ¬ W.mu k := fun k hk => fresh_mu oF (nF k hk)
  have G' : GOk (W.ownH F [] oF fun _ z => nomatch z) H σ Γ' := ⟨⟨G.ok.1, fun _ z => nomatch z⟩, G.wish, fun i t ht => by
    obtain ⟨h1, u, hu⟩ := frzH_slots rfl nm G.ok.2 f i t ht
    obtain ⟨v, h2, h3⟩ := G.at_ i u hu
    exact ⟨v, h2, h1 u v hu h3⟩, G.len.trans f.len⟩
  refine h D σ H oF (fun _ z => nomatch z) wF .nil G' ⟨fun L' oF' nF' σ' H' Γ2 s nd' G2 q => O.nx L' oF' nF' σ' H' Γ2 ?_ nd' G2 q, O.rt, fun L' oF' nF' σ' H' Γ2 s nd' G2 q => O.bk L' oF' nF' σ' H' Γ2 ?_ nd' G2 q, fun L' oF' nF' σ' H' Γ2 s nd' G2 q => O.ct L' oF' nF' σ' H' Γ2 ?_ nd' G2 q⟩ <;>
  exact ⟨fun a o m z => s.1 a o (fun q => m (plusL_mu.mpr (.inl q))) z, fun k hk => .inr ((s.2 k hk).resolve_left fun z => nomatch z)⟩
end
theorem huX {k : Nat} {A : Around} (h : Room k A) : A.units + 1 < cLine := by
  have := h.units
  omega
end G
set_option Elab.async false
set_option linter.all false
set_option maxRecDepth 100000
set_option maxHeartbeats 2000000
namespace G
open PySem PySem.Spec PyProof.Rows L2 StX
theorem putF_new {f : Str} {v : V} : ∀ {fs : List (Str × V)}, f ∉ fs.map (·.1) → putF f v fs = fs ++ [(f, v)]
  | [], _ => rfl
  | (g, x) :: r, h => by
    have h1 : ¬ g = f := fun e => h (by rw [← e]; exact List.mem_cons_self)
    show (if g = f then (g, v) :: r else (g, x) :: putF f v r) = _
    rw [if_neg h1, putF_new (fs := r) fun e => h (List.mem_cons_of_mem _ e)]
    rfl
theorem look_last {f : Str} {v : V} : ∀ {fs : List (Str × V)}, f ∉ fs.map (·.1) → (fs ++ [(f, v)]).lookup f = some v
  | [], _ => by simp [List.lookup]
  | (g, x) :: r, h => by
    have h1 : ¬ f = g := fun e => h (by rw [e]; exact List.mem_cons_self)
    rw [List.cons_append, List.lookup_cons, beq_eq_false_iff_ne.mpr h1]
    exact look_last fun e => h (List.mem_cons_of_mem _ e)
theorem look_front {f g : Str} {v : V} (h : f ≠ g) : ∀ {fs : List (Str × V)}, (fs ++ [(g, v)]).lookup f = fs.lookup f
  | [] => by simp [List.lookup, beq_eq_false_iff_ne.mpr h]
  | (k, x) :: r => by
    rw [List.cons_append, List.lookup_cons, List.lookup_cons, look_front h (fs := r)]
/-- what field f of b is -/
inductive GetF (f : Str) {α : Type} (rα : Rep α) (a : α) : {β : Type} → FRep β → β → Prop
  | here {β : Type} {fβ : FRep β} {b : β} : f ∉ FRep.nms b → GetF f rα a (@frepP α β rα fβ) (⟨f, a⟩, b)
  | there {γ β : Type} {rγ : Rep γ} {fβ : FRep β} {c : Fd γ} {b : β} : f ≠ c.n → GetF f rα a fβ b → GetF f rα a (@frepP γ β rγ fβ) (c, b)
theorem GetF.look {f : Str} {α β : Type} {rα : Rep α} {a : α} {fβ : FRep β} {b : β} (g : GetF f rα a fβ b) : ∀ {W : Wc} {H : Hp} {fs : List (Str × V)}, FRep.fd W H fs b → ∃ v, fs.lookup f = some v ∧ den W H v a := by
  induction g with
  | here h =>
    intro W H fs ⟨v, r, h1, h2, h3⟩
    have h3' : FRep.fd W H r _ := h3
    exact ⟨v, by rw [h1]; exact look_last (by rw [FRep.nm h3']; exact h), h2⟩
  | there h _ ih =>
    intro W H fs ⟨v, r, h1, h2, h3⟩
    obtain ⟨w, h4, h5⟩ := ih h3
    exact ⟨w, by rw [h1]; exact (look_front h).trans h4, h5⟩
section
variable {W : Wd} {F : Hp} {L : OwnH} {Γ : Gam} {ta tb te tv to : TE} {tt : TT} {t u : TS} {R : PoH} {g : TG} {K : PySem.W.Frag}
theorem oi_at {Wo : Wd} {H : Hp} {σ : L2.St} {β : Type} {fβ : FRep β} {i : Nat} {o : Oi β} (G : GOk Wo H σ Γ) (h : Γ[i]? = some (some (T o))) : σ[i]? = some (some (.ref o.p)) ∧ FRep.fd Wo.toWc H o.fs o.b := by
  obtain ⟨v, h1, h2, h3⟩ := G.at_ i _ h
  subst h2
  exact ⟨h1, h3⟩
/-- self.f = e, self an own object; how the fields change is told -/
theorem sxh_setf {α β β' : Type} {rα : Rep α} {fβ : FRep β} {fβ' : FRep β'} {f : Str} {i : Nat} (n : Nat) {p dx : Addr} {c : Cn} {fs : List (Str × V)} {b : β} (b' : α → β')
    (hK : W.B.K = K) (hc : L2.Cls K (W.B.cl c)) (hn : NoAttr K (W.B.cl c) f) (hk : L[n]? = some (p, .ins (W.B.cl c) dx fs)) (hi : Γ[i]? = some (some (T (Oi.mk p c dx fs b)))) (hl : (FRep.nms b).length < 1000)
    (hf : ∀ (W' : Wc) (H : Hp) (v : V) (a : α), den W' H v a → FRep.fd W' H fs b → FRep.fd W' H (putF f v fs) (b' a))
    (h : ∀ Wo, OwnHW W L Wo → EvK Wo tv Γ fun a : α => ∀ fs', R.nx (L.set n (p, .ins (W.B.cl c) dx fs')) (Γ.set i (some (T (Oi.mk p c dx fs' (b' a)))))) : SxH W F (sFld K (tVar i) tv f) L Γ R := fun D σ H oF nF wF nd G O => by
  subst hK
  refine h _ (ownH_w wF) σ H _ G fun y H1 a e1 dy q => ?_
  have G1 := G.ext e1
  obtain ⟨h1, h2⟩ := oi_at G1 hi
  have hp := G1.ok.2 _ (List.mem_of_getElem? hk)
  have hlen : fs.length < 1000 := by
    have := FRep.nm h2
    have e := congrArg List.length this
    rw [List.length_map] at e
    have e : fs.length = (FRep.nms b).length := e
    omega
  refine ⟨_, h1, p, _, dx, fs, rfl, hp, hc, hn, hlen, ?_⟩
  exact ownH_put (T (Oi.mk p c dx _ (b' a))) nd G1 (O.step G1.ok.1 (ownH_stp e1)) hk h1 (fun kp => ⟨rfl, FRep.mono kp (hf _ H1 y a dy h2)⟩) (q _)
/-- a new field -/
theorem sxh_setn {α β : Type} {rα : Rep α} {fβ : FRep β} {f : Str} {i : Nat} (n : Nat) {p dx : Addr} {c : Cn} {fs : List (Str × V)} {b : β}
    (hK : W.B.K = K) (hc : L2.Cls K (W.B.cl c)) (hn : NoAttr K (W.B.cl c) f) (hk : L[n]? = some (p, .ins (W.B.cl c) dx fs)) (hi : Γ[i]? = some (some (T (Oi.mk p c dx fs b)))) (hl : (FRep.nms b).length < 1000) (hm : f ∉ FRep.nms b)
    (h : ∀ Wo, OwnHW W L Wo → EvK Wo tv Γ fun a : α => ∀ fs', R.nx (L.set n (p, .ins (W.B.cl c) dx fs')) (Γ.set i (some (T (Oi.mk p c dx fs' ((⟨f, a⟩, b) : Fd α × β)))))) : SxH W F (sFld K (tVar i) tv f) L Γ R :=
  sxh_setf (fβ' := frepP) n (fun a => ((⟨f, a⟩, b) : Fd α × β)) hK hc hn hk hi hl (fun W' H v a d z => ⟨v, fs, putF_new (by rw [FRep.nm z]; exact hm), d, z⟩) h
/-- self.f, self an own object -/
theorem ev_fldOi {Wo : Wd} {α β : Type} {rα : Rep α} {fβ : FRep β} {f : Str} {i : Nat} {p dx : Addr} {c : Cn} {fs : List (Str × V)} {b : β} {a : α} {k : α → Prop}
    (hW : OwnHW W L Wo) (hK : W.B.K = K) (hc : L2.Cls K (W.B.cl c)) (hn : NoAttr K (W.B.cl c) f) (hm : (p, HO.ins (W.B.cl c) dx fs) ∈ L) (hi : Γ[i]? = some (some (T (Oi.mk p c dx fs b)))) (hg : GetF f rα a fβ b) (q : k a) : EvK Wo (tFld K (tVar i) f) Γ k := by
  subst hK
  refine fun σ H Q G c2 => ?_
  obtain ⟨h1, h2⟩ := oi_at G hi
  obtain ⟨v, h3, h4⟩ := hg.look h2
  exact ⟨_, h1, p, _, dx, fs, v, rfl, hW.pin H G.ok _ hm, hc, hn, h3, c2 v H a (Ext.refl G.ok) h4 q⟩
theorem lookH_gok {H : Hp} {σ : L2.St} {Γ' : Gam} {oF : W.ok F} {nF : ∀ k ∈ keysH L, F k = none} (wF : W.wish F) (f : FrzH W.B L Γ Γ') (G : GOk (W.ownH F L oF nF) H σ Γ) : GOk W H σ Γ' := by
  have nm : ∀ k ∈ keysH L, ¬ W.mu k := fun k hk => fresh_mu oF (nF k hk)
  exact ⟨G.ok.1, W.wst F H G.wish G.ok.1 wF, fun i t ht => by
    obtain ⟨h1, u, hu⟩ := frzH_slots rfl nm G.ok.2 f i t ht
    obtain ⟨v, h2, h3⟩ := G.at_ i u hu
    exact ⟨v, h2, h1 u v hu h3⟩, G.len.trans f.len⟩
theorem lookH_ext {H H' : Hp} {oF : W.ok F} {nF : ∀ k ∈ keysH L, F k = none} (o : (W.ownH F L oF nF).ok H) (e : Ext W H H') : Ext (W.ownH F L oF nF) H H' := by
  have nm : ∀ k ∈ keysH L, ¬ W.mu k := fun k hk => fresh_mu oF (nF k hk)
  exact ⟨fun a u m z => e.keep a u (fun q => m (plusL_mu.mpr (.inl q))) z, e.ok, fun x hx => e.keep x.1 x.2 (nm _ (List.mem_map.mpr ⟨x, hx, rfl⟩)) (o.2 x hx)⟩
/-- data that lean on no object -/
class Flat (α : Type) [Rep α] : Prop where
  at_ : ∀ {W W' : Wc} {H H' : Hp} {v : V} {a : α}, den W H v a → den W' H' v a
instance : Flat Int := ⟨fun h => h⟩
instance : Flat Bool := ⟨fun h => h⟩
instance : Flat Str := ⟨fun h => h⟩
instance : Flat Unit := ⟨fun h => h⟩
theorem lookH_K {α : Type} [rα : Rep α] [Flat α] {Γ' : Gam} {k : α → Prop} {oF : W.ok F} {nF : ∀ k ∈ keysH L, F k = none} (wF : W.wish F) (f : FrzH W.B L Γ Γ') (h : EvK W te Γ' k) : EvK (W.ownH F L oF nF) te Γ k := fun σ H Q G c =>
  h σ H Q (lookH_gok wF f G) fun v H1 a e d q => c v H1 a (lookH_ext G.ok e) (Flat.at_ d) q
theorem lookH_T {Γ' : Gam} {k : Bool → Prop} {oF : W.ok F} {nF : ∀ k ∈ keysH L, F k = none} (wF : W.wish F) (f : FrzH W.B L Γ Γ') (h : EvT W tt Γ' k) : EvT (W.ownH F L oF nF) tt Γ k := fun σ H Q G c =>
  h σ H Q (lookH_gok wF f G) fun H1 b e q => c H1 b (lookH_ext G.ok e) q
theorem lookH_F {β : Type} [rβ : Rep β] [Flat β] {Γ' : Gam} {k : List β → Prop} {oF : W.ok F} {nF : ∀ k ∈ keysH L, F k = none} (wF : W.wish F) (f : FrzH W.B L Γ Γ') (h : EvF W te Γ' k) : EvF (W.ownH F L oF nF) te Γ k := fun σ H Q G c =>
  h σ H Q (lookH_gok wF f G) fun p H1 vs bs n e hp hd q => c p H1 vs bs n (lookH_ext G.ok e) hp (hd.imp fun _ _ d => Flat.at_ d) q
theorem sxh_lookF {β : Type} {rβ : Rep β} [Flat β] {Γ' : Gam} {i : Nat} (f : FrzH W.B L Γ Γ') (h : EvF W te Γ' fun as : List β => R.nx L (Γ.set i (some (T as)))) : SxH W F (tAsg te (gName i)) L Γ R := fun D σ H oF nF wF nd G O =>
  sx_set (lookH_F wF f h).k D σ H G (eokH_un nd O G.wish G.ok)
theorem sxh_lookD {α : Type} {rα : Rep α} [Flat α] {Γ' : Gam} (f : FrzH W.B L Γ Γ') (h : EvK W te Γ' fun _ : α => R.nx L Γ) : SxH W F (tDrop te) L Γ R := fun D σ H oF nF wF nd G O =>
  sx_drop (lookH_K wF f h) D σ H G (eokH_un nd O G.wish G.ok)
theorem sxh_lookIf {Γ' : Gam} (f : FrzH W.B L Γ Γ') (h : EvT W tt Γ' fun b => (b = true → SxH W F t L Γ R) ∧ (b = false → SxH W F u L Γ R)) : SxH W F (tIfS tt t u) L Γ R := fun D σ H oF nF wF nd G O =>
  lookH_T wF f h σ H _ G fun H1 b e1 ⟨h1, h2⟩ => by
    have G1 := G.ext e1
    cases b with
    | true => exact h1 rfl D σ H1 oF nF wF nd G1 (O.step G1.ok.1 (ownH_stp e1))
    | false => exact h2 rfl D σ H1 oF nF wF nd G1 (O.step G1.ok.1 (ownH_stp e1))
end
abbrev PI (β : Type) := Cn → (β → Prop) → (Xn → Prop) → List Ty → Prop
def spIn {β : Type} [FRep β] (B : Bs) (P : PI β) : Sp := fun vs H Q E => ∃ (W : Wd) (F : Hp) (p dx : Addr) (c : Cn) (ws : List V) (ts : List Ty) (k : β → Prop) (x : Xn → Prop) (oF : W.ok F) (nF : ∀ q ∈ keysH [(p, HO.ins (B.cl c) dx [])], F q = none),
  vs = .ref p :: ws ∧ W.B = B ∧ XOk W F E x ∧ (W.ownH F [(p, .ins (B.cl c) dx [])] oF nF).ok H ∧ Kp W.toWc F H ∧ DT (W.toWc.plus p) H ws ts ∧ P c k x ts ∧
  ∀ H' fs b, Kp (W.toWc.plus p) H H' → W.ok H' → H' p = some (.ins (B.cl c) dx fs) → FRep.fd (W.toWc.plus p) H' fs b → k b → Q .non H'
theorem init_ok {β : Type} [FRep β] {B : Bs} {P : PI β} {t : TS} {N : List Str} {vs : List V} {H : Hp} {Q : VK} {E : XK}
    (hb : ∀ (W : Wd) F p dx c ts k x, W.B = B → (∀ H', W.ok H' → W.wish H' → XOk W H' E x) → P c k x ts →
      SxH W F t [(p, .ins (W.B.cl c) dx [])] (some (T (Oi.mk p c dx [] ())) :: (ts.map some ++ List.replicate (N.length - (ts.length + 1)) none)) { nx := fun L Γ => ∃ fs b, L = [(p, .ins (W.B.cl c) dx fs)] ∧ Γ[0]? = some (some (T (Oi.mk p c dx fs b))) ∧ k b, rt := fun _ => False })
    (h : spIn B P vs H Q E) : t { nx := fun _ H' => Q .non H', rt := Q } (L2.start N vs) H := by
  obtain ⟨W, F, p, dx, c, ws, ts, k, x, oF, nF, rfl, hB, hx, ho, hw, hd, hp, hq⟩ := h
  subst hB
  have nF' : ∀ q ∈ keysH [(p, HO.ins ((W.wth E x).B.cl c) dx [])], F q = none := nF
  have ho' : ((W.wth E x).ownH F [(p, .ins ((W.wth E x).B.cl c) dx [])] oF nF').ok H := ho
  refine hb (W.wth E x) F p dx c ts k x rfl (fun H' _ w n d2 H2 e z q => w n d2 H2 e.wth z q) hp _ _ H oF nF' hx (List.nodup_cons.mpr ⟨fun z => (nomatch z), .nil⟩) ?_ ?_
  · have hd' : DT ((W.wth E x).ownH F [(p, .ins ((W.wth E x).B.cl c) dx [])] oF nF').toWc H (.ref p :: ws) (T (Oi.mk p c dx [] ()) :: ts) := .cons (t := T (Oi.mk p c dx [] ())) ⟨rfl, rfl⟩ hd
    have := start_ok (N := N) ho' hw hd'
    exact this
  · refine ⟨fun L' oF' nF2 σ' H' Γ' s nd' G ⟨fs, b, hL, hG, kb⟩ => ?_, fun v H' t e d z => z.elim, fun _ _ _ _ _ _ _ _ _ z => z.elim, fun _ _ _ _ _ _ _ _ _ z => z.elim⟩
    subst hL
    obtain ⟨_, h2⟩ := oi_at G hG
    exact hq H' fs b s.1 G.ok.1 (G.ok.2 _ List.mem_cons_self) h2 kb
section
variable {W : Wd} {Γ : Gam} {ta tr : TA} {te : TE} {K : PySem.W.Frag} {B : Bs}
theorem dt_grow {H : Hp} {p : Addr} {W : Wc} : ∀ {vs : List V} {ts : List Ty}, H p = none → DT W H vs ts → DT (W.plus p) H vs ts
  | _, _, _, .nil => .nil
  | _, _, n, .cons (t := t) d r => .cons (t.r.grow p n d) (dt_grow n r)
/-- C(..) by an __init__ as above -/
theorem make_run {α β : Type} {rα : Rep α} {fβ : FRep β} {P : PI β} {H1 : Hp} {E : XK} {x : Xn → Prop} {k : α → Prop} {c : Cn} {ws : List V} {ts : List Ty} {Q : VK} (mk : β → α) (good : β → Prop) (hx : XOk W H1 E x) (o : W.ok H1)
    (hden : ∀ (W' : Wc) (H : Hp) (p dx : Addr) (fs : List (Str × V)) (b : β), W'.B = W.B → ¬ W'.mu p → H p = some (.ins (W.B.cl c) dx fs) → FRep.fd W' H fs b → good b → den W' H (.ref p) (mk b))
    (xx dx : Addr) (nx : H1 xx = none) (ndx : H1 dx = none) (nex : dx ≠ xx) (H2 : Hp) (e2 : Ext W (upd (upd H1 dx (.own xx)) xx (.ins (W.B.cl c) dx [])) H2) (hd : DT (W.toWc.plus xx) H2 ws ts) (hp : P c (fun b => good b ∧ k (mk b)) x ts)
    (cc : ∀ v H' (a : α), Ext W H1 H' → den W H' v a → k a → Q v H') : spIn W.B P (.ref xx :: ws) H2 (fun v H3 => v = .non ∧ Q (.ref xx) H3) E := by
  have m1 := fresh_mu o ndx
  have m2 := fresh_mu o nx
  have e3 : Ext W H1 (upd (upd H1 dx (.own xx)) xx (.ins (W.B.cl c) dx [])) := ⟨fun a u _ q => by rw [upd_ne (ne_of_none q nx), upd_ne (ne_of_none q ndx)]; exact q, W.st _ _ _ (W.st _ _ _ o m1) m2⟩
  refine ⟨W, H1, xx, dx, c, ws, ts, _, x, o, fun q hq => by rw [List.mem_singleton.mp hq]; exact nx, rfl, rfl, hx, ⟨e2.ok, fun y hy => ?_⟩, (e3.trans e2).keep, hd, hp, fun H' fs b kp ok' hH hf kb => ⟨rfl, ?_⟩⟩
  · rw [List.mem_singleton.mp hy]
    exact e2.keep xx _ m2 upd_same
  · refine cc (.ref xx) H' (mk b) ⟨fun a u m q => kp a u (fun z => z.elim m (fun z => by rw [z, nx] at q; cases q)) ((e3.trans e2).keep a u m q), ok'⟩ ?_ kb.2
    exact hden W.toWc H' xx dx fs b rfl m2 hH (FRep.shrink xx hf) kb.1
end
end G
set_option Elab.async false
set_option linter.all false
set_option maxRecDepth 100000
set_option maxHeartbeats 2000000
namespace G
open PySem PySem.Spec PyProof.Rows L2 StX
inductive RK where
  | leaf | rank | trim | weigh
  deriving DecidableEq
def RK.cn : RK → Cn
  | .leaf => .Leaf
  | .rank => .Rank
  | .trim => .Trim
  | .weigh => .Weigh
inductive Ru where
  | mk (k : RK) (lb : Str) (ns : List Int) (ps : List Ru) (rk : Bool)
def Ru.k : Ru → RK | .mk k _ _ _ _ => k
def Ru.lb : Ru → Str | .mk _ l _ _ _ => l
def Ru.ns : Ru → List Int | .mk _ _ n _ _ => n
def Ru.ps : Ru → List Ru | .mk _ _ _ p _ => p
def Ru.rk : Ru → Bool | .mk _ _ _ _ r => r
/-- what the text says of a class of rules -/
structure RcT (B : Bs) (k : RK) : Prop where
  cl : L2.Cls B.K (B.cl k.cn)
  nlabel : NoAttr B.K (B.cl k.cn) "label"
  nnumbers : NoAttr B.K (B.cl k.cn) "numbers"
  nparts : NoAttr B.K (B.cl k.cn) "parts"
  nranked : NoAttr B.K (B.cl k.cn) "ranked"
def ruF (lb : Str) (tn tp : Addr) (rk : Bool) : List (Str × V) := [("label", .str lb), ("numbers", .ref tn), ("parts", .ref tp), ("ranked", .bl rk)]
mutual
def ruD (W : Wc) (H : Hp) (v : V) : Ru → Prop
  | .mk k lb ns ps rk => ∃ a dx tn tp vs, v = .ref a ∧ ¬ W.mu a ∧ H a = some (.ins (W.B.cl k.cn) dx (ruF lb tn tp rk)) ∧ Tq W H tn (ns.map V.int) ∧ Tq W H tp vs ∧ RcT W.B k ∧ ruL W H vs ps
def ruL (W : Wc) (H : Hp) (vs : List V) : List Ru → Prop
  | [] => vs = []
  | p :: ps => ∃ v r, vs = v :: r ∧ ruD W H v p ∧ ruL W H r ps
end
mutual
theorem ruD_mono {W : Wc} {H H' : Hp} (e : Kp W H H') : ∀ (v : V) (r : Ru), ruD W H v r → ruD W H' v r
  | v, .mk k lb ns ps rk, h => by
    unfold ruD at h ⊢
    obtain ⟨a, dx, tn, tp, vs, hv, m, hH, h1, h2, hc, h3⟩ := h
    exact ⟨a, dx, tn, tp, vs, hv, m, e _ _ m hH, h1.mono e, h2.mono e, hc, ruL_mono e _ _ h3⟩
theorem ruL_mono {W : Wc} {H H' : Hp} (e : Kp W H H') : ∀ (vs : List V) (r : List Ru), ruL W H vs r → ruL W H' vs r
  | vs, [], h => by unfold ruL at h ⊢; exact h
  | vs, p :: ps, h => by
    unfold ruL at h ⊢
    obtain ⟨v, r, hv, h1, h2⟩ := h
    exact ⟨v, r, hv, ruD_mono e _ _ h1, ruL_mono e _ _ h2⟩
end
mutual
theorem ruD_grow {W : Wc} {H : Hp} (D : Addr) (n : H D = none) : ∀ (v : V) (r : Ru), ruD W H v r → ruD (W.plus D) H v r
  | v, .mk k lb ns ps rk, h => by
    unfold ruD at h ⊢
    obtain ⟨a, dx, tn, tp, vs, hv, m, hH, h1, h2, hc, h3⟩ := h
    exact ⟨a, dx, tn, tp, vs, hv, mu_grow n m hH, hH, h1.grow D n, h2.grow D n, hc, ruL_grow D n _ _ h3⟩
theorem ruL_grow {W : Wc} {H : Hp} (D : Addr) (n : H D = none) : ∀ (vs : List V) (r : List Ru), ruL W H vs r → ruL (W.plus D) H vs r
  | vs, [], h => by unfold ruL at h ⊢; exact h
  | vs, p :: ps, h => by
    unfold ruL at h ⊢
    obtain ⟨v, r, hv, h1, h2⟩ := h
    exact ⟨v, r, hv, ruD_grow D n _ _ h1, ruL_grow D n _ _ h2⟩
end
mutual
theorem ruD_shrink {W : Wc} {H : Hp} (D : Addr) : ∀ (v : V) (r : Ru), ruD (W.plus D) H v r → ruD W H v r
  | v, .mk k lb ns ps rk, h => by
    unfold ruD at h ⊢
    obtain ⟨a, dx, tn, tp, vs, hv, m, hH, h1, h2, hc, h3⟩ := h
    exact ⟨a, dx, tn, tp, vs, hv, fun z => m (.inl z), hH, h1.shrink D, h2.shrink D, hc, ruL_shrink D _ _ h3⟩
theorem ruL_shrink {W : Wc} {H : Hp} (D : Addr) : ∀ (vs : List V) (r : List Ru), ruL (W.plus D) H vs r → ruL W H vs r
  | vs, [], h => by unfold ruL at h ⊢; exact h
  | vs, p :: ps, h => by
    unfold ruL at h ⊢
    obtain ⟨v, r, hv, h1, h2⟩ := h
    exact ⟨v, r, hv, ruD_shrink D _ _ h1, ruL_shrink D _ _ h2⟩
end
instance : Rep Ru := ⟨ruD, fun e h => ruD_mono e _ _ h, fun D n h => ruD_grow D n _ _ h, fun D h => ruD_shrink D _ _ h⟩
theorem ruL_dl {W : Wc} {H : Hp} : ∀ {vs : List V} {ps : List Ru}, ruL W H vs ps ↔ Dl (den W H) vs ps
  | vs, [] => by
    unfold ruL
    constructor
    · rintro rfl; exact .nil
    · intro h; cases h; rfl
  | vs, p :: ps => by
    unfold ruL
    constructor
    · rintro ⟨v, r, rfl, h1, h2⟩
      exact .cons h1 (ruL_dl.mp h2)
    · intro h
      cases h with
      | cons h1 h2 => exact ⟨_, _, rfl, h1, ruL_dl.mpr h2⟩
theorem ru_den {W : Wc} {H : Hp} {v : V} {r : Ru} : den W H v r ↔ ∃ a dx tn tp vs, v = .ref a ∧ ¬ W.mu a ∧ H a = some (.ins (W.B.cl r.k.cn) dx (ruF r.lb tn tp r.rk)) ∧ Tq W H tn (r.ns.map V.int) ∧ Tq W H tp vs ∧ RcT W.B r.k ∧ Dl (den W H) vs r.ps := by
  obtain ⟨k, lb, ns, ps, rk⟩ := r
  show ruD W H v _ ↔ _
  unfold ruD
  constructor
  · rintro ⟨a, dx, tn, tp, vs, h1, h2, h3, h4, h5, hc, h6⟩
    exact ⟨a, dx, tn, tp, vs, h1, h2, h3, h4, h5, hc, ruL_dl.mp h6⟩
  · rintro ⟨a, dx, tn, tp, vs, h1, h2, h3, h4, h5, hc, h6⟩
    exact ⟨a, dx, tn, tp, vs, h1, h2, h3, h4, h5, hc, ruL_dl.mpr h6⟩
/-- data that stand for an object, of one of several classes -/
class VIns (β : Type) [Rep β] (fl : outParam (List Str)) where
  kn : β → Cn
  at_ : ∀ {W : Wc} {H : Hp} {v : V} {b : β}, den W H v b → ∃ a dx fs, v = .ref a ∧ ¬ W.mu a ∧ H a = some (.ins (W.B.cl (kn b)) dx fs) ∧ fs.map (·.1) = fl
instance : VIns Ru ["label", "numbers", "parts", "ranked"] := ⟨fun r => r.k.cn, fun h => by
  obtain ⟨a, dx, tn, tp, vs, h1, h2, h3, _⟩ := ru_den.mp h
  exact ⟨a, dx, _, h1, h2, h3, rfl⟩⟩
section
variable {W : Wd} {Γ : Gam} {te to : TE} {ta : TA} {K : PySem.W.Frag}
/-- iteration over a tuple -/
theorem ei_tup {α : Type} {rα : Rep α} {k : List α → Prop} (hK : W.B.K = K) (h : EvK W te Γ fun as : Tl α => k as.xs) : EvI W (iTup K te) Γ k := by
  subst hK
  refine fun σ H R G c => h σ H _ G fun v H1 as e1 ⟨p, xs, hv, hp, hd⟩ z => ⟨p, hv, ⟨xs, hp.sq⟩, c _ H1 as.xs e1 ⟨?_, ?_, ?_⟩ z⟩
  · intro i H' kp hi
    rw [← hd.length] at hi
    exact ⟨xs, xs[i], (hp.mono kp).sq, List.getElem?_eq_getElem hi⟩
  · intro H' kp
    exact ⟨xs, (hp.mono kp).sq, by rw [hd.length]; exact Nat.le_refl _⟩
  · rintro i H' x H'' kp _ hi ⟨rfl, hx⟩
    obtain ⟨a, ea, da⟩ := hd.at (hx xs (hp.mono kp).sq)
    exact ⟨a, ea, .inl rfl, Rep.mono kp da, fun D o nD _ => Rep.mono (W := W.toWc.plus D) (fun b o mb z => kp b o (fun q => mb (.inl q)) z) (Rep.grow D nD da)⟩
/-- tuple(x) -/
theorem ev_tupL {α : Type} {rα : Rep α} {k : Tl α → Prop} (hK : W.B.K = K) (h : EvK W te Γ fun l : List α => k ⟨l⟩) : EvK W (tThen te (kTup K)) Γ k := by
  subst hK
  refine fun σ H Q G c => h σ H _ G fun v H1 l e1 ⟨p, xs, hv, hp, hd⟩ z => .inl ⟨p, xs, hv, hp.sq, fun q hq => ?_⟩
  have e2 := Ext.new (o := .tup xs) e1.ok hq
  exact c (.ref q) _ ⟨l⟩ (e1.trans e2) ⟨q, xs, rfl, Tq.new (fresh_mu e1.ok hq) upd_same, hd.imp fun _ _ d => Rep.mono e2.keep d⟩ z
theorem ev_tupN {α : Type} {rα : Rep α} {ta : TA} {k : Tl α → Prop} (h : EvL W ta Γ fun as : List α => as.length ≤ 100000 ∧ k ⟨as⟩) : EvK W (tTup ta) Γ k := by
  refine fun σ H Q G c => h σ H _ G fun vs H1 as e1 d ⟨hl, z⟩ => ⟨by rw [d.length]; exact Nat.le_trans hl (by decide), fun q hq => ?_⟩
  have e2 := Ext.new (o := .tup vs) e1.ok hq
  exact c (.ref q) _ ⟨as⟩ (e1.trans e2) ⟨q, vs, rfl, Tq.new (fresh_mu e1.ok hq) upd_same, d.imp fun _ _ d => Rep.mono e2.keep d⟩ z
end
end G
set_option Elab.async false
set_option linter.all false
set_option maxRecDepth 100000
set_option maxHeartbeats 2000000
namespace G
open PySem PySem.Spec PyProof.Rows L2 StX
theorem pe_tupleOfK {X : Cx} {a : Expr} {ta : TE} {p pos : Pos} (K : PySem.W.Frag) (hg : Gl X "tuple") (hm : X.mg "tuple" = none) (ha : PE X a ta) (hK : X.K = K := by rfl) (na : starEach [a] X.env = (false, eval a X.env) :: starEach [] X.env := by rfl) :
    PE X (.Call (.Name "tuple" p) [a] [] pos) (tThen ta (kTup K)) := by
  subst hK
  exact pe_tupleOf hg hm ha na
theorem ps_fldK {X : Cx} {o e : Expr} {to tv : TE} {f : Str} {pos pos' : Pos} (K : PySem.W.Frag) (ho : PE X o to) (hv : PE X e tv) (hs : swapsWith e (some (.Attribute o f pos')) pos.line X.env = pure false := by rfl) (hK : X.K = K := by rfl) : PS X (.Assign [.Attribute o f pos'] e pos) (sFld K to tv f) := by
  subst hK
  exact ps_fld ho hv hs
mutual
def namesF : Ru → List Str
  | .mk .leaf lb _ _ _ => [lb]
  | .mk .rank _ _ ps _ => namesL ps
  | .mk .trim _ _ ps _ => namesL ps
  | .mk .weigh _ _ ps _ => namesL ps
def namesL : List Ru → List Str
  | [] => []
  | p :: ps => namesF p ++ namesL ps
end
mutual
def depR : Ru → Nat
  | .mk .leaf _ _ _ _ => 0
  | .mk .rank _ _ ps _ => depRL ps + 1
  | .mk .trim _ _ ps _ => depRL ps + 1
  | .mk .weigh _ _ ps _ => depRL ps + 1
def depRL : List Ru → Nat
  | [] => 0
  | p :: ps => max (depR p) (depRL ps)
end
def sortI (as : List Int) : List Int := as.mergeSort fun a b => decide (a ≤ b)
/-- the least number of a list -/
def minL : List Int → Int
  | [] => 0
  | [a] => a
  | a :: b :: r => min a (minL (b :: r))
def wUp (ns as : List Int) (m : Int) : Int := (((as.zip ns).filter fun q => decide (q.1 ≤ m)).map fun q => q.2).sum
/-- the answers of which the mean is taken -/
def cntF (k : RK) (ns as : List Int) : List Int := match k with
  | .leaf => []
  | .rank => [(sortI as).getD (ns.headD 0).toNat 0]
  | .trim => ((sortI as).drop (ns.headD 0).toNat).take (as.length - (ns.headD 0).toNat - (ns.headD 0).toNat)
  | .weigh => [minL (as.filter fun a => decide (ns.sum ≤ 2 * wUp ns as a))]
def nodeF (k : RK) (ns as : List Int) : Int := (cntF k ns as).sum / (cntF k ns as).length
mutual
def ansF (rd : Str → Int) : Ru → Int
  | .mk .leaf lb _ _ _ => rd lb
  | .mk .rank _ ns ps _ => nodeF .rank ns (ansL rd ps)
  | .mk .trim _ ns ps _ => nodeF .trim ns (ansL rd ps)
  | .mk .weigh _ ns ps _ => nodeF .weigh ns (ansL rd ps)
def ansL (rd : Str → Int) : List Ru → List Int
  | [] => []
  | p :: ps => ansF rd p :: ansL rd ps
end
/-- the numbers of a rule of this kind with n parts are right -/
def numOk (k : RK) (ns : List Int) (n : Nat) : Prop := match k with
  | .leaf => True
  | .rank => ∃ p, ns = [p] ∧ 0 ≤ p ∧ p < n
  | .trim => ∃ c, ns = [c] ∧ 0 ≤ c ∧ 2 * c < n
  | .weigh => ns.length = n ∧ (∀ w ∈ ns, 0 ≤ w) ∧ 0 < ns.sum
mutual
def okR : Ru → Prop
  | .mk k _ ns ps _ => numOk k ns ps.length ∧ ps.length ≤ 100 ∧ okRL ps
def okRL : List Ru → Prop
  | [] => True
  | p :: ps => okR p ∧ okRL ps
end
mutual
def kdsR (ks : List RK) : Ru → Prop
  | .mk k _ _ ps _ => k ∈ ks ∧ kdsRL ks ps
def kdsRL (ks : List RK) : List Ru → Prop
  | [] => True
  | p :: ps => kdsR ks p ∧ kdsRL ks ps
end
/-- the first name that stood before -/
def dupG (seen : List Str) : List Str → Option Str
  | [] => none
  | a :: r => if a ∈ seen then some a else dupG (seen ++ [a]) r
def dupF (l : List Str) : Option Str := dupG [] l
theorem dupG_none {seen l : List Str} : dupG seen l = none ↔ (∀ a ∈ l, a ∉ seen) ∧ l.Nodup := by
  induction l generalizing seen with
  | nil => simp [dupG]
  | cons a r ih =>
    unfold dupG
    by_cases h : a ∈ seen
    · rw [if_pos h]
      exact ⟨fun z => (nomatch z), fun z => absurd h (z.1 a List.mem_cons_self)⟩
    · rw [if_neg h, ih, List.nodup_cons]
      constructor
      · rintro ⟨h1, h2⟩
        refine ⟨fun b hb => ?_, fun hm => h1 a hm (List.mem_append_right _ (List.mem_singleton.mpr rfl)), h2⟩
        rcases List.mem_cons.mp hb with rfl | hb
        · exact h
        · exact fun z => h1 b hb (List.mem_append_left _ z)
      · rintro ⟨h1, h2, h3⟩
        refine ⟨fun b hb z => ?_, h3⟩
        rcases List.mem_append.mp z with z | z
        · exact h1 b (List.mem_cons_of_mem _ hb) z
        · exact h2 (List.mem_singleton.mp z ▸ hb)
theorem dupF_none {l : List Str} : dupF l = none ↔ l.Nodup := by
  unfold dupF
  rw [dupG_none]
  exact ⟨fun h => h.2, fun h => ⟨fun _ _ z => (nomatch z), h⟩⟩
theorem dupG_step {seen l : List Str} {i : Nat} {a : Str} (h : l[i]? = some a) (hs : seen = l.take i) : dupG seen (l.drop i) = if a ∈ seen then some a else dupG (l.take (i + 1)) (l.drop (i + 1)) := by
  have hi := (List.getElem?_eq_some_iff.mp h).1
  have he := (List.getElem?_eq_some_iff.mp h).2
  rw [List.drop_eq_getElem_cons hi, he]
  show (if a ∈ seen then some a else dupG (seen ++ [a]) (l.drop (i + 1))) = _
  rw [hs, List.take_succ, h]
  rfl
end G
namespace G
open PySem PySem.Spec PyProof.Rows L2 StX
end G
namespace G
open PySem PySem.Spec PyProof.Rows L2 StX
def shStr (f : Str) (vs : List V) (fs : List (Str × V)) : Prop := ∃ x : Str, vs = [.str x] ∧ (reprText x).length ≤ 3000 ∧ x.length ≤ 3000 ∧ fs = ([(f, .str x)] : List (Str × V))
theorem shStr_ok {f a : Str} (s : (reprText a).length ≤ 3000) (s2 : a.length ≤ 3000) : ShT (shStr f) [T a] [(f, .s a)] := ⟨by show 1 ≤ 1000; decide, fun W H vs h => by
  cases h with
  | cons h1 h =>
  cases h
  exact ⟨_, ⟨_, by rw [show _ = V.str a from h1], s, s2, rfl⟩, .cons (t := .s a) rfl .nil⟩⟩
theorem fmt_rep {σ : L2.St} {H : Hp} {te : TE} {x : Str} (h : ∀ Q : VK, Q (.str x) H → te σ H Q) (s : (reprText x).length ≤ 3000) : ∀ Q : VK, Q (.str (reprText x)) H → tFmtR te σ H Q := fun Q q => h _ (.inl ⟨x, rfl, Nat.le_trans s (by decide), q⟩)
end G
namespace G
end G
namespace G
end G
namespace G
open PySem PySem.Spec PyProof.Rows L2 StX
theorem EvF.imp {β : Type} {rβ : Rep β} {W : Wd} {te : TE} {Γ : Gam} {k k' : List β → Prop} (h : EvF W te Γ k) (i : ∀ bs, k bs → k' bs) : EvF W te Γ k' := fun σ H Q G c =>
  h σ H Q G fun p H' vs bs n e hp hd q => c p H' vs bs n e hp hd (i bs q)
end G
namespace G
open PySem PySem.Spec PyProof.Rows L2 StX
/-- numbers that the readings of a dict are -/
def rdF (ds : List (Str × Int)) (n : Str) : Int := (getDc ds n).getD 0
end G
namespace G
end G
set_option Elab.async false
set_option linter.all false
set_option maxRecDepth 100000
set_option maxHeartbeats 2000000
namespace G
open PySem PySem.Spec PyProof.Rows L2 StX
def mergeD {β : Type} (l more : List (Str × β)) : List (Str × β) := more.foldl (fun acc e => putDc acc e.1 e.2) l
section
variable {W : Wd} {Γ : Gam} {te tk tv : TE} {trs : List (TE × TE)} {K : PySem.W.Frag}
theorem Dk.flat {β : Type} [Rep β] [Flat β] {W W' : Wc} {H H' : Hp} {kvs : List (Key × V)} {l : List (Str × β)} (h : Dk (den W H) kvs l) : Dk (den W' H') kvs l := h.imp fun _ _ d => Flat.at_ d
end
mutual
theorem ruD_nolst {W : Wc} {H : Hp} {D : Addr} {xs : List V} (h : H D = some (.lst xs)) : ∀ (v : V) (r : Ru), ruD W H v r → ruD (W.plus D) H v r
  | v, .mk k lb ns ps rk, hr => by
    unfold ruD at hr ⊢
    obtain ⟨a, dx, tn, tp, vs, hv, m, hH, h1, h2, hc, h3⟩ := hr
    exact ⟨a, dx, tn, tp, vs, hv, fun z => z.elim m fun z => (by rw [z, h] at hH; cases hH), hH, tq_nl h h1, tq_nl h h2, hc, ruL_nolst h _ _ h3⟩
theorem ruL_nolst {W : Wc} {H : Hp} {D : Addr} {xs : List V} (h : H D = some (.lst xs)) : ∀ (vs : List V) (r : List Ru), ruL W H vs r → ruL (W.plus D) H vs r
  | vs, [], hr => by unfold ruL at hr ⊢; exact hr
  | vs, p :: ps, hr => by
    unfold ruL at hr ⊢
    obtain ⟨v, r, hv, h1, h2⟩ := hr
    exact ⟨v, r, hv, ruD_nolst h _ _ h1, ruL_nolst h _ _ h2⟩
end
instance : NoLst Ru := ⟨fun h d => ruD_nolst h _ _ d⟩
end G
namespace G
open PySem PySem.Spec PyProof.Rows L2 StX
theorem EvL.imp {α : Type} {rα : Rep α} {W : Wd} {ta : TA} {Γ : Gam} {k k' : List α → Prop} (h : EvL W ta Γ k) (i : ∀ as, k as → k' as) : EvL W ta Γ k' := fun σ H Q G c => h σ H Q G fun vs H' as e d q => c vs H' as e d (i as q)
end G
namespace G
open PySem PySem.Spec PyProof.Rows L2 StX
theorem putDc_new {β : Type} {l : List (Str × β)} {k : Str} {b : β} (h : k ∉ l.map (·.1)) : putDc l k b = l ++ [(k, b)] := by
  unfold putDc
  rw [if_neg]
  intro z
  obtain ⟨e, he, hd⟩ := List.any_eq_true.mp z
  exact h (List.mem_map.mpr ⟨e, he, of_decide_eq_true hd⟩)
end G
namespace G
open PySem PySem.Spec PyProof.Rows L2 StX
theorem filtT {α : Type} (as : List α) : as.filter (fun _ => true) = as := List.filter_eq_self.mpr fun _ _ => rfl
end G
set_option Elab.async false
set_option linter.all false
set_option maxRecDepth 100000
set_option maxHeartbeats 2000000
namespace G
open PySem PySem.Spec PyProof.Rows L2 StX
theorem Dl.dropLast {α : Type} {f : V → α → Prop} : ∀ {vs : List V} {as : List α}, Dl f vs as → Dl f vs.dropLast as.dropLast
  | _, _, .nil => .nil
  | _, _, .cons _ .nil => .nil
  | _, _, .cons x (.cons y z) => .cons x (Dl.dropLast (.cons y z))
end G
namespace G
open PySem PySem.Spec PyProof.Rows L2 StX
end G
namespace G
open PySem PySem.Spec PyProof.Rows L2 StX
end G
namespace G
open PySem PySem.Spec PyProof.Rows L2 StX
end G
set_option Elab.async false
set_option linter.all false
set_option maxRecDepth 100000
set_option maxHeartbeats 2000000
namespace G
open PySem PySem.Spec PyProof.Rows L2 StX
end G
namespace G
open PySem PySem.Spec PyProof.Rows L2 StX
end G
namespace G
open PySem PySem.Spec PyProof.Rows L2 StX
end G
namespace G
open PySem PySem.Spec PyProof.Rows L2 StX
end G
namespace G
end G
namespace G
open PySem PySem.Spec PyProof.Rows L2 StX
/-- list(x), x a list -/
theorem evF_listOf {α : Type} {rα : Rep α} {W : Wd} {Γ : Gam} {te : TE} {K : PySem.W.Frag} {k : List α → Prop} (hK : W.B.K = K) (h : EvK W te Γ fun as : List α => k as) :
    EvF W (tCB (fun xs H Q => ∃ p ys, xs = [V.ref p] ∧ (SqL K H p ys ∨ SqT K H p ys) ∧ ∀ l, H l = none → Q (V.ref l) (upd H l (HO.lst ys))) (tCons te tNil)) Γ k := by
  subst hK
  refine fun σ H Q G c => h σ H _ G fun v H1 as e1 ⟨p, xs, hv, hp, hd⟩ z => ⟨p, xs, by rw [hv], .inl hp.sq, fun l hl => ?_⟩
  have e2 := Ext.new (o := .lst xs) e1.ok hl
  refine c l _ xs as (fresh_back e1.ok e1 hl) (e1.trans e2) upd_same (hd.imp fun _ _ d => ?_) z
  exact Rep.mono (W := W.toWc.plus l) (fun b o m q => e2.keep b o (fun z => m (.inl z)) q) (Rep.grow l hl d)
end G
namespace G
open PySem PySem.Spec PyProof.Rows L2 StX
def ab : List Str := ["a", "b"]
end G
namespace G
open PySem PySem.Spec PyProof.Rows L2 StX
end G
set_option Elab.async false
set_option linter.all false
set_option maxRecDepth 100000
set_option maxHeartbeats 2000000
namespace G
open PySem PySem.Spec PyProof.Rows L2 StX
structure Tt where
  r : Ru
def trN : RK → Str
  | .leaf => "leaf"
  | .rank => "rank"
  | .trim => "trim"
  | .weigh => "weigh"
def trX (W : Wc) (H : Hp) (x : V) (k : RK) (lb : Str) (ns : List Int) : Prop := match k with
  | .leaf => x = .str lb
  | .rank => ∃ n, ns = [n] ∧ x = .int n
  | .trim => ∃ n, ns = [n] ∧ x = .int n
  | .weigh => ∃ q, x = .ref q ∧ Lq W H q (ns.map V.int)
theorem trX_mono {W : Wc} {H H' : Hp} {x : V} {k : RK} {lb : Str} {ns : List Int} (e : Kp W H H') (h : trX W H x k lb ns) : trX W H' x k lb ns := by
  cases k with
  | weigh => obtain ⟨q, h1, h2⟩ := h; exact ⟨q, h1, h2.mono e⟩
  | _ => exact h
theorem trX_grow {W : Wc} {H : Hp} {x : V} {k : RK} {lb : Str} {ns : List Int} (D : Addr) (n : H D = none) (h : trX W H x k lb ns) : trX (W.plus D) H x k lb ns := by
  cases k with
  | weigh => obtain ⟨q, h1, h2⟩ := h; exact ⟨q, h1, h2.grow D n⟩
  | _ => exact h
theorem trX_shrink {W : Wc} {H : Hp} {x : V} {k : RK} {lb : Str} {ns : List Int} (D : Addr) (h : trX (W.plus D) H x k lb ns) : trX W H x k lb ns := by
  cases k with
  | weigh => obtain ⟨q, h1, h2⟩ := h; exact ⟨q, h1, h2.shrink D⟩
  | _ => exact h
mutual
def trD (W : Wc) (H : Hp) (v : V) : Ru → Prop
  | .mk k lb ns ps rk => ∃ p x lp vs, v = .ref p ∧ Tq W H p [.str (trN k), x, .ref lp] ∧ trX W H x k lb ns ∧ Lq W H lp vs ∧ trL W H vs ps
def trL (W : Wc) (H : Hp) (vs : List V) : List Ru → Prop
  | [] => vs = []
  | p :: ps => ∃ v r, vs = v :: r ∧ trD W H v p ∧ trL W H r ps
end
mutual
theorem trD_mono {W : Wc} {H H' : Hp} (e : Kp W H H') : ∀ (v : V) (r : Ru), trD W H v r → trD W H' v r
  | v, .mk k lb ns ps rk, h => by
    unfold trD at h ⊢
    obtain ⟨p, x, lp, vs, hv, h1, h2, h3, h4⟩ := h
    exact ⟨p, x, lp, vs, hv, h1.mono e, trX_mono e h2, h3.mono e, trL_mono e _ _ h4⟩
theorem trL_mono {W : Wc} {H H' : Hp} (e : Kp W H H') : ∀ (vs : List V) (r : List Ru), trL W H vs r → trL W H' vs r
  | vs, [], h => by unfold trL at h ⊢; exact h
  | vs, p :: ps, h => by
    unfold trL at h ⊢
    obtain ⟨v, r, hv, h1, h2⟩ := h
    exact ⟨v, r, hv, trD_mono e _ _ h1, trL_mono e _ _ h2⟩
end
mutual
theorem trD_grow {W : Wc} {H : Hp} (D : Addr) (n : H D = none) : ∀ (v : V) (r : Ru), trD W H v r → trD (W.plus D) H v r
  | v, .mk k lb ns ps rk, h => by
    unfold trD at h ⊢
    obtain ⟨p, x, lp, vs, hv, h1, h2, h3, h4⟩ := h
    exact ⟨p, x, lp, vs, hv, h1.grow D n, trX_grow D n h2, h3.grow D n, trL_grow D n _ _ h4⟩
theorem trL_grow {W : Wc} {H : Hp} (D : Addr) (n : H D = none) : ∀ (vs : List V) (r : List Ru), trL W H vs r → trL (W.plus D) H vs r
  | vs, [], h => by unfold trL at h ⊢; exact h
  | vs, p :: ps, h => by
    unfold trL at h ⊢
    obtain ⟨v, r, hv, h1, h2⟩ := h
    exact ⟨v, r, hv, trD_grow D n _ _ h1, trL_grow D n _ _ h2⟩
end
mutual
theorem trD_shrink {W : Wc} {H : Hp} (D : Addr) : ∀ (v : V) (r : Ru), trD (W.plus D) H v r → trD W H v r
  | v, .mk k lb ns ps rk, h => by
    unfold trD at h ⊢
    obtain ⟨p, x, lp, vs, hv, h1, h2, h3, h4⟩ := h
    exact ⟨p, x, lp, vs, hv, h1.shrink D, trX_shrink D h2, h3.shrink D, trL_shrink D _ _ h4⟩
theorem trL_shrink {W : Wc} {H : Hp} (D : Addr) : ∀ (vs : List V) (r : List Ru), trL (W.plus D) H vs r → trL W H vs r
  | vs, [], h => by unfold trL at h ⊢; exact h
  | vs, p :: ps, h => by
    unfold trL at h ⊢
    obtain ⟨v, r, hv, h1, h2⟩ := h
    exact ⟨v, r, hv, trD_shrink D _ _ h1, trL_shrink D _ _ h2⟩
end
instance : Rep Tt := ⟨fun W H v t => trD W H v t.r, fun e h => trD_mono e _ _ h, fun D n h => trD_grow D n _ _ h, fun D h => trD_shrink D _ _ h⟩
mutual
def wfR : Ru → Prop
  | .mk k lb ns ps rk => (k = .leaf → ns = [] ∧ ps = [] ∧ rk = true) ∧ (k ≠ .leaf → lb = trN k ∧ rk = (decide (k ≠ .trim) && ps.all Ru.rk)) ∧ wfL ps
def wfL : List Ru → Prop
  | [] => True
  | p :: ps => wfR p ∧ wfL ps
end
/-- a rule that a tree may stand for -/
structure TrOk (d : Nat) (r : Ru) : Prop where
  wf : wfR r
  ok : okR r
  kds : kdsR [.leaf, .rank, .trim, .weigh] r
  dep : depR r ≤ d
theorem TrOk.le {d d' : Nat} {r : Ru} (h : TrOk d r) (l : d ≤ d') : TrOk d' r := ⟨h.wf, h.ok, h.kds, Nat.le_trans h.dep l⟩
end G
namespace G
open PySem PySem.Spec PyProof.Rows L2 StX
end G
set_option Elab.async false
set_option linter.all false
set_option maxRecDepth 100000
set_option maxHeartbeats 2000000
namespace G
open PySem
/-- each of a list at most its fellow -/
def LeL : List Int → List Int → Prop
  | [], [] => True
  | a :: as, b :: bs => a ≤ b ∧ LeL as bs
  | _, _ => False
theorem LeL.length : ∀ {as bs : List Int}, LeL as bs → as.length = bs.length
  | [], [], _ => rfl
  | a :: as, b :: bs, h => congrArg (· + 1) (LeL.length h.2)
  | [], b :: bs, h => h.elim
  | a :: as, [], h => h.elim
theorem LeL.drop : ∀ (n : Nat) {as bs : List Int}, LeL as bs → LeL (as.drop n) (bs.drop n)
  | 0, _, _, h => h
  | n + 1, [], [], h => trivial
  | n + 1, a :: as, b :: bs, h => LeL.drop n h.2
  | n + 1, [], b :: bs, h => h.elim
  | n + 1, a :: as, [], h => h.elim
theorem LeL.take : ∀ (n : Nat) {as bs : List Int}, LeL as bs → LeL (as.take n) (bs.take n)
  | 0, _, _, h => trivial
  | n + 1, [], [], h => trivial
  | n + 1, a :: as, b :: bs, h => ⟨h.1, LeL.take n h.2⟩
  | n + 1, [], b :: bs, h => h.elim
  | n + 1, a :: as, [], h => h.elim
theorem LeL.sum : ∀ {as bs : List Int}, LeL as bs → as.sum ≤ bs.sum
  | [], [], _ => Int.le_refl _
  | a :: as, b :: bs, h => by
    rw [List.sum_cons, List.sum_cons]
    have := LeL.sum h.2
    have := h.1
    omega
  | [], b :: bs, h => h.elim
  | a :: as, [], h => h.elim
theorem LeL.at_ : ∀ {as bs : List Int} (i : Nat), LeL as bs → as.getD i 0 ≤ bs.getD i 0
  | [], [], _, _ => Int.le_refl _
  | a :: as, b :: bs, 0, h => h.1
  | a :: as, b :: bs, i + 1, h => by
    have := LeL.at_ i h.2
    simpa using this
  | [], b :: bs, _, h => h.elim
  | a :: as, [], _, h => h.elim
end G
set_option Elab.async false
set_option linter.all false
set_option maxRecDepth 100000
set_option maxHeartbeats 2000000
namespace G
open PySem PySem.Spec PyProof.Rows L2 StX
inductive Rw where
  | n (a b : Int)
  | l (a : Int) (bs : List Int)
def Rw.a : Rw → Int
  | .n a _ => a
  | .l a _ => a
def rwX (W : Wc) (H : Hp) (x : V) : Rw → Prop
  | .n _ b => x = .int b
  | .l _ bs => ∃ q, x = .ref q ∧ Lq W H q (bs.map V.int)
instance : Rep Rw := ⟨fun W H v r => ∃ p x, v = .ref p ∧ Tq W H p [.int r.a, x] ∧ rwX W H x r, fun {W H H' v r} e h => by
    obtain ⟨p, x, hv, h1, h2⟩ := h
    refine ⟨p, x, hv, h1.mono e, ?_⟩
    cases r with
    | n a b => exact h2
    | l a bs => obtain ⟨q, h3, h4⟩ := h2; exact ⟨q, h3, h4.mono e⟩, fun {W H v r} D n h => by
    obtain ⟨p, x, hv, h1, h2⟩ := h
    refine ⟨p, x, hv, h1.grow D n, ?_⟩
    cases r with
    | n a b => exact h2
    | l a bs => obtain ⟨q, h3, h4⟩ := h2; exact ⟨q, h3, h4.grow D n⟩, fun {W H v r} D h => by
    obtain ⟨p, x, hv, h1, h2⟩ := h
    refine ⟨p, x, hv, h1.shrink D, ?_⟩
    cases r with
    | n a b => exact h2
    | l a bs => obtain ⟨q, h3, h4⟩ := h2; exact ⟨q, h3, h4.shrink D⟩⟩
theorem repr_small {w : Str} (h : ∀ c ∈ w.cps.toList, c < 16 ^ 8) (hl : w.length ≤ 200) : (reprText w).length ≤ 3000 := by
  have := StrLaws.reprText_len w h
  omega
theorem repr_good {w : Str} (h : GoodW w) : (reprText w).length ≤ 3000 ∧ w.length ≤ 3000 := by
  obtain ⟨h1, h2, h3, _⟩ := h
  exact ⟨repr_small (fun c hc => Nat.lt_of_le_of_lt (h3 c hc).2 (by decide)) (by omega), by omega⟩
end G
namespace G
open PySem PySem.Spec PyProof.Rows L2 StX
theorem ev_xfS {W : Wd} {Γ : Gam} {te : TE} {C a : Addr} {cls : Value} {d : Option Addr} {f : Str} {k : Str → Prop} (hC : cls = .ref C) (h : EvK W te Γ fun e : Er => (e.a = a ∧ e.d = d) ∧ ∃ z : Str, e.n.fs.lookup f = some (.s z) ∧ k z) : EvK W (tXf a cls d C f te) Γ k := by
  refine fun σ H Q E c => h σ H _ E fun v H1 e e1 d1 ⟨⟨ha, hd⟩, z, hf, q⟩ => ?_
  obtain ⟨hv, xd⟩ := d1
  subst ha hd
  rcases xd with ⟨h0, _⟩ | ⟨dd, vs, h1, _, h3, h4⟩
  · rw [h0] at hf
    cases hf
  · obtain ⟨u, hu, du⟩ := h4.at hf
    exact ⟨hv, hC, dd, vs, u, h1, h3, hu, c u H1 z e1 du q⟩
end G
namespace G
open PySem PySem.Spec PyProof.Rows L2 StX
end G
namespace G
open PySem PySem.Spec PyProof.Rows L2 StX
end G
namespace G
open PySem PySem.Spec PyProof.Rows L2 StX
end G
set_option Elab.async false
set_option linter.all false
set_option maxRecDepth 100000
set_option maxHeartbeats 2000000
namespace G
open PySem PySem.Spec PyProof.Rows L2 StX
end G
namespace G
open PySem PySem.Spec PyProof.Rows L2 StX
end G
namespace G
open PySem PySem.Spec PyProof.Rows L2 StX
end G
namespace G
open PySem PySem.Spec PyProof.Rows L2 StX
end G
namespace G
open PySem PySem.Spec PyProof.Rows L2 StX
end G
namespace G
open PySem PySem.Spec PyProof.Rows L2 StX
end G
namespace G
open PySem PySem.Spec PyProof.Rows L2 StX
def cl (s : Str) : List Nat := s.cps.toList
end G
namespace G
open PySem PySem.Spec PyProof.Rows L2 StX
end G
set_option Elab.async false
set_option linter.all false
set_option maxRecDepth 100000
set_option maxHeartbeats 2000000
namespace G
open PySem PySem.Spec PyProof.Rows L2 StX
section
variable {W : Wd} {F : Hp} {L : OwnH} {Γ : Gam} {te : TE} {R : PoH} {K : PySem.W.Frag}
theorem ol_den {W : Wc} {H : Hp} {α : Type} {rα : Rep α} {f : Str} {q : Addr} {vs : List V} {as : List α} {fs : List (Str × V)} (h : FRep.fd W H fs ((⟨f, ⟨q, vs, as⟩⟩, ()) : Fd (Ol α) × Unit)) : fs = [(f, .ref q)] ∧ Dl (den W H) vs as := by
  obtain ⟨v, r, h1, ⟨h2, h3⟩, h4⟩ := h
  have h4 : r = [] := h4
  have h2 : v = .ref q := h2
  subst h2 h4
  exact ⟨h1, h3⟩
/-- self.f.append(e), self an own object whose field f is an own list -/
theorem sxh_appendF {α : Type} {rα : Rep α} {f : Str} {i : Nat} (n k : Nat) {p dx q : Addr} {c : Cn} {fs : List (Str × V)} {vs : List V} {as : List α} (hK : W.B.K = K) (hc : L2.Cls K (W.B.cl c)) (hn : NoAttr K (W.B.cl c) f)
    (hp : L[n]? = some (p, .ins (W.B.cl c) dx fs)) (hk : L[k]? = some (q, .lst vs)) (hi : Γ[i]? = some (some (T (Oi.mk p c dx fs ((⟨f, ⟨q, vs, as⟩⟩, ()) : Fd (Ol α) × Unit)))))
    (h : ∀ Wo, OwnHW W L Wo → EvK Wo te Γ fun a : α => as.length < 100000 ∧ ∀ v, R.nx (L.set k (q, .lst (vs ++ [v]))) (Γ.set i (some (T (Oi.mk p c dx fs ((⟨f, ⟨q, vs ++ [v], as ++ [a]⟩⟩, ()) : Fd (Ol α) × Unit)))))) :
    SxH W F (tDrop (tBM K "list" rAppend (tFld K (tVar i) f) (tCons te tNil))) L Γ R := fun D σ H oF nF wF nd G O => by
  subst hK
  obtain ⟨h1, h2⟩ := oi_at G hi
  obtain ⟨hfs, hd⟩ := ol_den h2
  have hfs : fs = [(f, .ref q)] := hfs
  have hH := G.ok.2 _ (List.mem_of_getElem? hp)
  refine ⟨_, h1, p, _, dx, fs, .ref q, rfl, hH, hc, hn, by rw [hfs]; exact look_last (fun z => nomatch z) (fs := []), ?_⟩
  refine ⟨.inl ⟨rfl, _, .inl (.inl (G.ok.2 _ (List.mem_of_getElem? hk)))⟩, ?_⟩
  refine h _ (ownH_w wF) σ H _ G fun v H1 a e1 d ⟨hl, z⟩ => ?_
  have G1 := G.ext e1
  refine ⟨q, vs, v, rfl, rfl, G1.ok.2 _ (List.mem_of_getElem? hk), Nat.lt_of_lt_of_le (by rw [hd.length]; exact hl) (by decide : 100000 ≤ sizeLine), ?_⟩
  refine ownH_put (v0 := .ref p) (T (Oi.mk p c dx fs ((⟨f, ⟨q, vs ++ [v], as ++ [a]⟩⟩, ()) : Fd (Ol α) × Unit))) nd G1 (O.step G1.ok.1 (ownH_stp e1)) hk h1 (fun kp => ⟨rfl, .ref q, [], hfs, ⟨rfl, ?_⟩, rfl⟩) (z v)
  exact (Dl.append (hd.imp fun _ _ x => Rep.mono e1.keep x) (.cons d .nil)).imp fun _ _ x => Rep.mono kp x
end
end G
namespace G
open PySem PySem.Spec PyProof.Rows L2 StX
structure RackT (B : Bs) : Prop where
  cl : L2.Cls B.K (B.cl .Rack)
  ng : NoAttr B.K (B.cl .Rack) "_gauges"
  nf : NoAttr B.K (B.cl .Rack) "_faults"
structure Rp where
  gs : List Gau
structure Rk where
  gs : List Gau
  fl : List (List Str)
instance : Rep Rp :=
  ⟨fun W H v r => ∃ a dx w, v = .ref a ∧ ¬ W.mu a ∧ H a = some (.ins (W.B.cl .Rack) dx [("_gauges", w)]) ∧ den W H w r.gs ∧ RackT W.B,
   fun e ⟨a, dx, w, hv, m, h, h1, h2⟩ => ⟨a, dx, w, hv, m, e _ _ m h, Rep.mono e h1, h2⟩,
   fun D n ⟨a, dx, w, hv, m, h, h1, h2⟩ => ⟨a, dx, w, hv, mu_grow n m h, h, Rep.grow D n h1, h2⟩,
   fun D ⟨a, dx, w, hv, m, h, h1, h2⟩ => ⟨a, dx, w, hv, fun z => m (.inl z), h, Rep.shrink D h1, h2⟩⟩
instance : Rep Rk :=
  ⟨fun W H v r => ∃ a dx w u, v = .ref a ∧ ¬ W.mu a ∧ H a = some (.ins (W.B.cl .Rack) dx [("_gauges", w), ("_faults", u)]) ∧ den W H w r.gs ∧ den W H u r.fl ∧ RackT W.B,
   fun e ⟨a, dx, w, u, hv, m, h, h1, h3, h2⟩ => ⟨a, dx, w, u, hv, m, e _ _ m h, Rep.mono e h1, Rep.mono e h3, h2⟩,
   fun D n ⟨a, dx, w, u, hv, m, h, h1, h3, h2⟩ => ⟨a, dx, w, u, hv, mu_grow n m h, h, Rep.grow D n h1, Rep.grow D n h3, h2⟩,
   fun D ⟨a, dx, w, u, hv, m, h, h1, h3, h2⟩ => ⟨a, dx, w, u, hv, fun z => m (.inl z), h, Rep.shrink D h1, Rep.shrink D h3, h2⟩⟩
instance : Ins Rp .Rack ["_gauges"] := ⟨fun ⟨a, dx, w, hv, m, h, _⟩ => ⟨a, dx, _, hv, m, h, rfl⟩⟩
instance : Ins Rk .Rack ["_gauges", "_faults"] := ⟨fun ⟨a, dx, w, u, hv, m, h, _⟩ => ⟨a, dx, _, hv, m, h, rfl⟩⟩
section
variable {W : Wd} {Γ : Gam} {te : TE} {K : PySem.W.Frag}
theorem ev_pgauges {k : List Gau → Prop} (hK : W.B.K = K) (h : EvK W te Γ fun r : Rp => k r.gs) : EvK W (tFld K te "_gauges") Γ k := by
  subst hK
  refine fun σ H Q E c => h σ H _ E fun v H1 r e1 d z => ?_
  obtain ⟨a, dx, w, hv, m, hH, hw, hT⟩ := d
  exact ⟨a, _, dx, _, w, hv, hH, hT.cl, hT.ng, by simp [List.lookup], c w H1 r.gs e1 hw z⟩
theorem ev_kgauges {k : List Gau → Prop} (hK : W.B.K = K) (h : EvK W te Γ fun r : Rk => k r.gs) : EvK W (tFld K te "_gauges") Γ k := by
  subst hK
  refine fun σ H Q E c => h σ H _ E fun v H1 r e1 d z => ?_
  obtain ⟨a, dx, w, u, hv, m, hH, hw, hu, hT⟩ := d
  exact ⟨a, _, dx, _, w, hv, hH, hT.cl, hT.ng, by simp [List.lookup], c w H1 r.gs e1 hw z⟩
end
/-- a rack in the making, looked at -/
theorem rp_look {B : Bs} {L : OwnH} {p dx q : Addr} {fs : List (Str × V)} {vs : List V} {gs : List Gau} (hT : RackT B) (hp : (p, HO.ins (B.cl .Rack) dx fs) ∈ L) (hq : (q, HO.lst vs) ∈ L) (W : Wc) (H : Hp) (hB : W.B = B) (pin : ∀ x ∈ L, ¬ W.mu x.1 ∧ H x.1 = some x.2)
    (h : FRep.fd W H fs ((⟨"_gauges", ⟨q, vs, gs⟩⟩, ()) : Fd (Ol Gau) × Unit)) : den W H (.ref p) (Rp.mk gs) := by
  subst hB
  obtain ⟨hfs, hd⟩ := ol_den h
  obtain ⟨m1, h1⟩ := pin _ hp
  obtain ⟨m2, h2⟩ := pin _ hq
  have h1 : H p = some (.ins (W.B.cl .Rack) dx fs) := h1
  rw [hfs] at h1
  exact ⟨p, dx, .ref q, rfl, m1, h1, ⟨q, vs, rfl, ⟨m2, h2⟩, hd⟩, hT⟩
end G
namespace G
open PySem PySem.Spec PyProof.Rows L2 StX
/-- x not in o, by the promise of o's __contains__ -/
theorem ev_notInOwn {W : Wd} {Γ : Gam} {te tb : TE} {α β : Type} {rα : Rep α} {rβ : Rep β} {C : Addr} {B : Bs} {P : PT} {E : XK} {k : Bool → Prop} (hB : W.B = B)
    (h : EvK W te Γ fun a : α => EvK W tb Γ fun s : β => OwnG β B C (P (fun t => ∃ b : Bool, t = T b ∧ k (!b)) (fun _ => False) [T s, T a])) : EvK W (tOp (rNotInOwn C (spG B P) E) te tb) Γ k := by
  subst hB
  refine ev_two (h.imp fun a ha => ha.imp fun s ⟨c, fl, iβ, hC, hp⟩ x y H Q o dx dy q => ?_)
  subst hC
  obtain ⟨p, dp, fs, hv, _, hH, _⟩ := iβ.at_ dy
  refine ⟨p, dp, fs, hv, hH, W, _, _, _, rfl, o, .cons (t := T s) dy (.cons (t := T a) dx .nil), hp, fun v H2 t e2 dt ⟨b, eb, kb⟩ => ?_, fun n d2 H2 _ _ z => z.elim⟩
  subst eb
  exact ⟨b, dt, q _ H2 (!b) e2 rfl kb⟩
end G
set_option Elab.async false
set_option linter.all false
set_option maxRecDepth 100000
set_option maxHeartbeats 2000000
namespace G
open PySem PySem.Spec PyProof.Rows L2 StX
abbrev dcE (kx vx t1 i1 t2 i2 : Expr) (sc : Scope) (ps : Pos) : Expr := .DictComp kx vx [⟨t1, i1, [], 0⟩, ⟨t2, i2, [], 0⟩] sc ps
section
variable {prog : Program} {w : World} {A : Around} {R : Result → Shared → Prop} {s : Shared} {kx vx t1 i1 t2 i2 : Expr} {sc : Scope} {ps : Pos} {it : Value} {D : Addr} {env : Env}
theorem dc2_outer : compTurn (dcE kx vx t1 i1 t2 i2 sc ps) 0 it (.ref D) env = (do
    standAt i1.pos
    match ← pyNext it with
    | none => pure (.done .next)
    | some u =>
      letOwnedTupleGo t1 it u
      assign t1 env u
      let y ← eval i2 env
      standAt i2.pos
      let y ← foldedSetIterable i2 env y
      let _ ← runOwn (.compStart (dcE kx vx t1 i1 t2 i2 sc ps) 1 (← holding [y] (pyIter y)) (.ref D) env) env
      again (.compLoop (dcE kx vx t1 i1 t2 i2 sc ps) 0 it (.ref D) env)) := by rfl
theorem dc2_inner : compTurn (dcE kx vx t1 i1 t2 i2 sc ps) 1 it (.ref D) env = (do
    standAt i2.pos
    match ← pyNext it with
    | none => pure (.done .next)
    | some u =>
      letOwnedTupleGo t2 it u
      assign t2 env u
      (do
        let kv ← eval kx env
        let vv ← holding [kv] (eval vx env)
        standAt { kx.pos with endLine := vx.pos.endLine, endCol := vx.pos.endCol }
        holding [kv, vv] (dictSet D kv vv))
      again (.compLoop (dcE kx vx t1 i1 t2 i2 sc ps) 1 it (.ref D) env)) := by rfl
/-- the outer loop by a measured invariant: in a turn the second clause runs to its end -/
theorem dc2_loop0 (hf : ∀ y, foldedSetIterable i2 env y = pure y) (J : Nat → Shared → Prop)
    (tn : ∀ n z, J n z → wpAny (model prog w) A (pyNext it) (fun r z1 => match r with
      | none => R (.ok .next) z1
      | some u => wpAny (model prog w) A (letOwnedTupleGo t1 it u) (fun _ z2 => wpAny (model prog w) A (assign t1 env u) (fun _ z3 => wpAny (model prog w) A (eval i2 env) (fun y z4 => wpAny (model prog w) A (pyIter y) (fun i' z5 =>
          codeAny (model prog w) A (.compStart (dcE kx vx t1 i1 t2 i2 sc ps) 1 i' (.ref D) env) (fun r z6 => (∃ f, r = .ok f) ∧ ∃ k, k < n ∧ J k z6) z5)
            (notedBy (model prog w) A env fun e z => R (.error e) z) z4) (notedBy (model prog w) A env fun e z => R (.error e) z) z3) (notedBy (model prog w) A env fun e z => R (.error e) z) z2) (notedBy (model prog w) A env fun e z => R (.error e) z) z1) (notedBy (model prog w) A env fun e z => R (.error e) z) z)
    (n : Nat) (h : J n s) : codeAny (model prog w) A (.compLoop (dcE kx vx t1 i1 t2 i2 sc ps) 0 it (.ref D) env) R s := by
  apply codeAny_loop rfl J _ n h
  intro n z hz
  apply wpAny_noted
  rw [dc2_outer]
  refine wpAny_bind (wpAny_standAt (wpAny_bind (wpAny_mono (tn n z hz) (fun r z1 q1 => ?_) fun _ _ q => q)))
  match r, q1 with
  | none, q1 => exact wpAny_pure q1
  | some u, q1 =>
    refine wpAny_bind (wpAny_mono q1 (fun _ z2 q2 => wpAny_bind (wpAny_mono q2 (fun _ z3 q3 => ?_) fun _ _ q => q)) fun _ _ q => q)
    refine wpAny_bind (wpAny_mono q3 (fun y z4 q4 => wpAny_bind (wpAny_standAt (wpAny_bind (wpAny_of_eq (hf y) ?_)))) fun _ _ q => q)
    refine wpAny_bind (wpAny_holding (wpAny_mono q4 (fun i' z5 q5 => wpAny_bind (wpAny_runOwn ?_)) fun _ _ q => q))
    rw [Around.mark_none]
    apply codeAny_mono q5
    rintro r z6 ⟨⟨f, rfl⟩, hk⟩
    first
    | exact wpAny_pure ⟨rfl, hk⟩
    | exact wpAny_bind (wpAny_pure (wpAny_pure ⟨rfl, hk⟩))
theorem dc2_loop1 (J : Nat → Shared → Prop)
    (tn : ∀ n z, J n z → wpAny (model prog w) A (pyNext it) (fun r z1 => match r with
      | none => R (.ok .next) z1
      | some u => wpAny (model prog w) A (letOwnedTupleGo t2 it u) (fun _ z2 => wpAny (model prog w) A (assign t2 env u) (fun _ z3 => wpAny (model prog w) A (eval kx env) (fun y z4 => wpAny (model prog w) A (eval vx env) (fun vv z45 =>
          wpAny (model prog w) A (dictSet D y vv) (fun _ z5 => ∃ k, k < n ∧ J k z5)
            (notedBy (model prog w) A env fun e z => R (.error e) z) z45) (notedBy (model prog w) A env fun e z => R (.error e) z) z4) (notedBy (model prog w) A env fun e z => R (.error e) z) z3) (notedBy (model prog w) A env fun e z => R (.error e) z) z2) (notedBy (model prog w) A env fun e z => R (.error e) z) z1) (notedBy (model prog w) A env fun e z => R (.error e) z) z)
    (n : Nat) (h : J n s) : codeAny (model prog w) A (.compLoop (dcE kx vx t1 i1 t2 i2 sc ps) 1 it (.ref D) env) R s := by
  apply codeAny_loop rfl J _ n h
  intro n z hz
  apply wpAny_noted
  rw [dc2_inner]
  refine wpAny_bind (wpAny_standAt (wpAny_bind (wpAny_mono (tn n z hz) (fun r z1 q1 => ?_) fun _ _ q => q)))
  match r, q1 with
  | none, q1 => exact wpAny_pure q1
  | some u, q1 =>
    refine wpAny_bind (wpAny_mono q1 (fun _ z2 q2 => wpAny_bind (wpAny_mono q2 (fun _ z3 q3 => wpAny_bind ?_) fun _ _ q => q)) fun _ _ q => q)
    exact wpAny_bind (wpAny_mono q3 (fun y z4 q4 => wpAny_bind (wpAny_holding (wpAny_mono q4 (fun vv z45 q45 => wpAny_bind (wpAny_standAt (wpAny_holding (wpAny_mono q45 (fun _ z5 q5 => wpAny_pure ⟨rfl, q5⟩) fun _ _ q => q)))) fun _ _ q => q))) fun _ _ q => q)
/-- the second clause begins -/
theorem dc2_start1 (h0 : codeAny (model prog w) A (.compLoop (dcE kx vx t1 i1 t2 i2 sc ps) 1 it (.ref D) env) R s)
    (h : wpAny (model prog w) A (pyIter it) (fun i' z => codeAny (model prog w) A (.compLoop (dcE kx vx t1 i1 t2 i2 sc ps) 1 i' (.ref D) env) R z) (notedBy (model prog w) A env fun e z => R (.error e) z) s) :
    codeAny (model prog w) A (.compStart (dcE kx vx t1 i1 t2 i2 sc ps) 1 it (.ref D) env) R s := by
  apply codeAny_of_tree
  apply wpAny_notedAt
  unfold compStart
  refine wpAny_bind (wpAny_askSetting (wpAny_ite ?_))
  split
  · first
    | exact wpAny_bind (wpAny_pure (wpAny_pure ⟨rfl, h0⟩))
    | exact wpAny_pure ⟨rfl, h0⟩
  · have go : ∀ i' z, codeAny (model prog w) A (.compLoop (dcE kx vx t1 i1 t2 i2 sc ps) 1 i' (.ref D) env) R z → _ := fun i' z q => q
    first
    | exact wpAny_bind (wpAny_rule (wpAny_bind (wpAny_standAt (wpAny_bind (wpAny_mono h (fun _ _ q => wpAny_pure ⟨rfl, q⟩) fun _ _ q => q)))))
    | (apply wpAny_bind; apply wpAny_rule; exact wpAny_bind (wpAny_standAt (wpAny_bind (wpAny_mono h (fun _ _ q => wpAny_pure ⟨rfl, q⟩) fun _ _ q => q))))
end
end G
namespace G
open PySem PySem.Spec PyProof.Rows L2 StX
def tDc2 (wi : TI) (g : TG) (wj : TI) (g2 : TG) (tk tv : TE) (vs vs1 : List Nat) : TE := fun σ H Q => wi σ H fun J H1 => ∀ D, H1 D = none → ∃ W : Nat → Nat → Hp → Prop, (∃ m, W 0 m (upd H1 D (.dK []))) ∧
  ∀ i m H2, W i m H2 → (J.stop i H2 ∧ Q (.ref D) H2) ∨ (J.go i H2 ∧ ∃ Z : Hp → Prop, (∀ H', Z H' → ∃ m', m' < m ∧ W (i + 1) m' H') ∧
    ∀ x H', J.yld i H2 x H' → g x (wipe σ vs) H' fun σ2 H3 => wipe σ2 vs = wipe σ vs ∧ wj σ2 H3 fun J1 H4 => ∃ V1 : Nat → Nat → Hp → Prop, (∃ k, V1 0 k H4) ∧
      ∀ j k H5, V1 j k H5 → (J1.stop j H5 ∧ Z H5) ∨ (J1.go j H5 ∧ ∃ Z1 : Hp → Prop, (∀ H', Z1 H' → ∃ k', k' < k ∧ V1 (j + 1) k' H') ∧
        ∀ x H', J1.yld j H5 x H' → g2 x (wipe σ2 vs1) H' fun σ3 H6 => wipe σ3 vs1 = wipe σ2 vs1 ∧ tk σ3 H6 fun y H7 => tv σ3 H7 fun z H8 => ∃ kvs k, y = kV k ∧ H8 D = some (.dK kvs) ∧ kvs.length < sizeLine ∧ Z1 (upd H8 D (.dK (putK kvs k z)))))
section
variable {X : Cx}
/-- the second clause, from its source on, in the block's context Y -/
theorem dc2_second {Y : Cx} {kx vx t1 i1 t2 i2 : Expr} {sc : Scope} {ps : Pos} {vs1 : List Nat} {wj : TI} {g2 : TG} {tk tv : TE} {D : Addr} {Z : Hp → Prop} {pins : List (Addr × Obj)} {σ2 : L2.St} {H4 : Hp} {z : Shared} {E : Value → Shared → Prop}
    (hc : Y.calm = true) (hxe : Y.xe = fun _ _ => False) (pj : L2.PI Y t2 i2 wj) (pg2 : PG Y t2 g2) (pk : PE Y kx tk) (pe : PE Y vx tv) (I : L2.Inv Y pins σ2 H4 z)
    (q : wj σ2 H4 fun J1 H4 => ∃ V1 : Nat → Nat → Hp → Prop, (∃ k, V1 0 k H4) ∧ ∀ j k H5, V1 j k H5 → (J1.stop j H5 ∧ Z H5) ∨ (J1.go j H5 ∧ ∃ Z1 : Hp → Prop, (∀ H', Z1 H' → ∃ k', k' < k ∧ V1 (j + 1) k' H') ∧
        ∀ x H', J1.yld j H5 x H' → g2 x (wipe σ2 vs1) H' fun σ3 H6 => wipe σ3 vs1 = wipe σ2 vs1 ∧ tk σ3 H6 fun y H7 => tv σ3 H7 fun z H8 => ∃ kvs k, y = kV k ∧ H8 D = some (.dK kvs) ∧ kvs.length < sizeLine ∧ Z1 (upd H8 D (.dK (putK kvs k z))))) :
    wpAny (model Y.prog Y.w) Y.A (eval i2 Y.env) (fun y z1 => wpAny (model Y.prog Y.w) Y.A (pyIter y) (fun i' z2 =>
      codeAny (model Y.prog Y.w) Y.A (.compStart (dcE kx vx t1 i1 t2 i2 sc ps) 1 i' (.ref D) Y.env) (fun r z3 => (∃ f, r = .ok f) ∧ ∃ H', L2.Inv Y pins (wipe σ2 vs1) H' z3 ∧ Z H') z2) E z1) E z := by
  have run := pj.run pins z σ2 H4 _ I q
  rw [hxe] at run
  refine thnF run fun y z1 a => thnF a fun i' z2 b => ?_
  obtain ⟨it, fp, tn, J1, H5, rfl, I5, T1, st, f5, V1, ⟨k0, v0⟩, turn⟩ := b
  have fpy : ∀ {H' : Hp}, (∀ b ∈ fp, H' b = none) → ∀ b ∈ fp, FpOk Y pins H' b := fun hn b hb => ⟨hn b hb, (f5 b hb).2⟩
  have loop : codeAny (model Y.prog Y.w) Y.A (.compLoop (dcE kx vx t1 i1 t2 i2 sc ps) 1 (.ref it) (.ref D) Y.env) (fun r z3 => (∃ f, r = .ok f) ∧ ∃ H', L2.Inv Y pins (wipe σ2 vs1) H' z3 ∧ Z H') z2 := by
    refine dc2_loop1 (fun n z => ∃ j H', L2.Inv Y pins (wipe σ2 vs1) H' z ∧ tn j z.heap ∧ (∀ b ∈ fp, H' b = none) ∧ V1 j n H') ?_ k0 ⟨0, H5, I5.weak (wipe_length _ _) (fun _ _ e => (wipe_some e).1), st, fun b hb => (f5 b hb).1, v0⟩
    rintro n z5 ⟨j, H6, I6, st6, n6, v6⟩
    rcases turn j n H6 v6 with ⟨stop, nx⟩ | ⟨go, Z1, hZ1, step⟩
    · refine thnF (T1.done Y rfl rfl rfl hc j pins z5 _ H6 (fun _ _ => False) I6 (fpy n6) st6 stop) fun r z6 ⟨hr, I7⟩ => ?_
      subst hr
      exact ⟨⟨_, rfl⟩, H6, I7, nx⟩
    · refine thnF (T1.item Y rfl rfl rfl hc j pins z5 _ H6 (fun _ _ => False) I6 (fpy n6) st6 go) fun r z6 ⟨u, hr, a⟩ => ?_
      subst hr
      refine thnF a fun _ z7 ⟨x, H7, I7, rx, y7, st7, n7⟩ => ?_
      have r2 := pg2.run _ z7 (wipe σ2 vs1) H7 x u _ (I7.pinned (fpy n7) (T1.obj _ _ st7)) rx (step x H7 y7)
      rw [hxe] at r2
      refine thnF r2 fun _ z8 ⟨σ8, H8, I8, hw8, q8⟩ => ?_
      have r3 := pk.run _ z8 σ8 H8 _ I8 q8
      rw [hxe] at r3
      refine thnF r3 fun u9 z9 ⟨yv, H9, I9, r9, q9⟩ => ?_
      have r4 := pe.run _ z9 σ8 H9 _ I9 q9
      rw [hxe] at r4
      refine thnF r4 fun u95 z95 ⟨zv, H95, I95, r95, kvs, kk, hy, hD9, room, nz⟩ => ?_
      subst hy
      refine d_dictSet I95 hD9 room r9 r95 fun z10 I10 => ?_
      obtain ⟨k', hk', w'⟩ := hZ1 _ nz
      have still : ∀ b ∈ fp, ∀ o, z7.heap.get? b = some o → z10.heap.get? b = some o ∧ (upd H95 D (.dK (putK kvs kk zv))) b = none := fun b hb o e => by
        have p := I10.pin (b, o) (List.mem_append_right _ (List.mem_append_right _ (mem_pinsAt hb e)))
        exact ⟨p.1, p.2.1⟩
      refine ⟨k', hk', j + 1, _, I10.unpinned.weak (by rw [← hw8, wipe_length]) (fun i v e => ?_), T1.keep _ _ _ st7 fun b hb o e => (still b hb o e).1, fun b hb => ?_, w'⟩
      · rw [← hw8] at e
        exact (wipe_some e).1
      · obtain ⟨o, e, _⟩ := T1.obj _ _ st7 b hb
        exact (still b hb o e).2
  exact dc2_start1 loop (T1.self Y.A 0 z2 _ _ st loop)
theorem pe_dc2 {kx vx t1 i1 t2 i2 : Expr} {sc : Scope} {ps : Pos} {own : List (Str × Nat)} {vs1 : List Nat} {wi wj : TI} {g g2 : TG} {tk tv : TE} (hc : X.calm = true) (hN : X.N.Nodup) (hi : L2.PI X t1 i1 wi) (ok : BlkOk X.N X.env.scope sc own) (hv : ∀ i ∈ vs1, i ∈ own.map (·.2))
    (hg : ∀ (s : Shared) (H : Hp) (C : Addr) (cl : List (Str × Addr)) (fp : List Addr), PG (X.blk s H sc (compEnvC sc cl C X.env) fp) t1 g)
    (hj : ∀ (s : Shared) (H : Hp) (C : Addr) (cl : List (Str × Addr)) (fp : List Addr), L2.PI (X.blk s H sc (compEnvC sc cl C X.env) fp) t2 i2 wj)
    (hg2 : ∀ (s : Shared) (H : Hp) (C : Addr) (cl : List (Str × Addr)) (fp : List Addr), PG (X.blk s H sc (compEnvC sc cl C X.env) fp) t2 g2)
    (hk : ∀ (s : Shared) (H : Hp) (C : Addr) (cl : List (Str × Addr)) (fp : List Addr), PE (X.blk s H sc (compEnvC sc cl C X.env) fp) kx tk)
    (he : ∀ (s : Shared) (H : Hp) (C : Addr) (cl : List (Str × Addr)) (fp : List Addr), PE (X.blk s H sc (compEnvC sc cl C X.env) fp) vx tv)
    (hf1 : ∀ y, foldedSetIterable i1 X.env y = pure y := by intro _; rfl) (hf2 : ∀ e y, foldedSetIterable i2 e y = pure y := by intro _ _; rfl) :
    PE X (dcE kx vx t1 i1 t2 i2 sc ps) (tDc2 wi g wj g2 tk tv (own.map (·.2)) vs1) := by
  constructor
  intro pins s σ H Q I h
  rw [arm_eval_DictComp]
  have hfree : ∀ y ∈ sc.names, y.2 = .free → ∃ c, X.env.cells.lookup y.1 = some c := by
    intro y hy e
    exact (ok.free y hy e).elim (fun q => I.ok.has _ (.inl q)) fun q => I.ok.has _ (.inr q)
  refine wpAny_comprehension_free (use := none) rfl hf1 (closure_ok hfree) ok.kind (fun y hy e => by rw [ok.uniq y hy, e]) (thn (hi.run pins s σ H _ I h) fun _ _ a => thn a fun _ z2 a => ?_)
  obtain ⟨it, fp, tn, J, H2, rfl, I2, T, st2, f2, q⟩ := a
  refine wpAny_newObj_type (newEnv_comp ?_)
  obtain ⟨D, hD⟩ : ∃ D, z2.heap.objs.size = D := ⟨_, rfl⟩
  rw [hD]
  have nD : H2 D = none := I2.hok.fresh (Nat.le_of_eq hD)
  obtain ⟨W, ⟨m0, w0⟩, turn⟩ := q D nD
  obtain ⟨z3, hz3⟩ : ∃ z3 : Shared, ({ z2 with heap := z2.heap.push { cls := .type "dict", data := .dict #[] } } : Shared) = z3 := ⟨_, rfl⟩
  have hh3 : z3.heap = z2.heap.push { cls := .type "dict", data := .dict #[] } := by rw [← hz3]
  have kp3 : ∀ b o, z2.heap.get? b = some o → z3.heap.get? b = some o := fun b o e => by rw [hh3]; exact Heap.get?_push_of_some _ e
  obtain ⟨H3, hH3⟩ : ∃ H3, upd H2 D (.dK []) = H3 := ⟨_, rfl⟩
  rw [hH3] at w0
  have I3 : L2.Inv X pins σ H3 z3 := by
    rw [← hH3, ← hz3]
    refine I2.laid (t' := z2.toks) (fun _ _ e => Heap.get?_push_of_some _ e) (Nat.le_of_eq hD) ?_
    rw [← hD]
    exact dk_empty z2.heap I2.big
  have small : ∀ b ∈ fp, b < z2.heap.objs.size := fun b hb => (T.obj _ _ st2 b hb).elim fun o e => Heap.lt_size e.1
  have n3 : ∀ b ∈ fp, H3 b = none := fun b hb => by
    have hne : b ≠ D := Nat.ne_of_lt (hD ▸ small b hb)
    rw [← hH3, upd_ne hne]
    exact (f2 b hb).1
  have f3 : ∀ b ∈ fp, FpOk X pins H3 b ∧ b < z3.heap.objs.size := fun b hb =>
    ⟨⟨n3 b hb, (f2 b hb).2⟩, by rw [hh3, Heap.size_push]; exact Nat.lt_succ_of_lt (small b hb)⟩
  have st3 : tn 0 z3.heap := T.keep _ _ _ st2 fun b _ o e => kp3 b o e
  have I4 := block_start I3 ok hN f3
  -- the block
  obtain ⟨ce, hce⟩ : ∃ ce, compEnvC sc (cellsFrom (z3.heap.objs.size + 1) sc.names (cloFrom X.env.cells sc.names [])) z3.heap.objs.size X.env = ce := ⟨_, rfl⟩
  have pg := hg z3 H3 z3.heap.objs.size (cellsFrom (z3.heap.objs.size + 1) sc.names (cloFrom X.env.cells sc.names [])) fp
  have pj := hj z3 H3 z3.heap.objs.size (cellsFrom (z3.heap.objs.size + 1) sc.names (cloFrom X.env.cells sc.names [])) fp
  have pg2 := hg2 z3 H3 z3.heap.objs.size (cellsFrom (z3.heap.objs.size + 1) sc.names (cloFrom X.env.cells sc.names [])) fp
  have pk := hk z3 H3 z3.heap.objs.size (cellsFrom (z3.heap.objs.size + 1) sc.names (cloFrom X.env.cells sc.names [])) fp
  have pe := he z3 H3 z3.heap.objs.size (cellsFrom (z3.heap.objs.size + 1) sc.names (cloFrom X.env.cells sc.names [])) fp
  rw [hce] at I4 pg pj pg2 pk pe
  have hloc : ce.locals = z3.heap.objs.size := by rw [← hce]; rfl
  obtain ⟨z4, hz4⟩ : ∃ z4 : Shared, ({ z3 with heap := pushCells (z3.heap.push { cls := .type "dict", data := .dict #[] }) sc.names } : Shared) = z4 := ⟨_, rfl⟩
  rw [hz4] at I4
  have st4 : tn 0 z4.heap := T.keep _ _ _ st3 fun b _ o e => by rw [← hz4]; exact pushCells_keeps _ _ _ _ (Heap.get?_push_of_some _ e)
  have stay : ∀ {σ' : L2.St} {H' : Hp} {z : Shared}, L2.Inv (X.blk z3 H3 sc ce fp) [] σ' H' z → (∀ b ∈ fp, H' b = none) → ∀ b ∈ fp, FpOk (X.blk z3 H3 sc ce fp) [] H' b := blk_fp
  have loop : codeAny (model X.prog X.w) X.A (.compLoop (dcE kx vx t1 i1 t2 i2 sc ps) 0 (.ref it) (.ref D) ce) (compPost (model X.prog X.w) X.A X.xe none (EP X pins σ Q) (.ref D) z3.heap.objs.size) z4 := by
    refine dc2_loop0 (hf2 ce) (fun n z => ∃ i H', L2.Inv (X.blk z3 H3 sc ce fp) [] (wipe σ (own.map (·.2))) H' z ∧ tn i z.heap ∧ (∀ b ∈ fp, H' b = none) ∧ W i n H') ?_ m0 ⟨0, H3, I4, st4, n3, w0⟩
    rintro n z5 ⟨i, H5, I5, st5, n5, w5⟩
    rcases turn i n H5 w5 with ⟨stop, qq⟩ | ⟨go, Z, hZ, step⟩
    · refine thnF (T.done (X.blk z3 H3 sc ce fp) rfl rfl rfl hc i [] z5 _ H5 (fun _ _ => False) I5 (stay I5 n5) st5 stop) fun r z6 ⟨hr, I6⟩ => ?_
      subst hr
      have I7 : L2.Inv X pins σ H5 z6 := I3.call' (ch := fp) I6.os I6.base I6.hok I6.bare fun b hb => by
        obtain ⟨_, a1, a2, a3, a4, a5⟩ := (f3 b hb).1
        exact ⟨a3, a1, a4, a5⟩
      have nC : H5 z3.heap.objs.size = none := by
        have z : H5 ce.locals = none := I6.free
        rw [hloc] at z
        exact z
      obtain ⟨m, hn, _⟩ := I6.loc
      have hn : z6.heap.Ns ce.locals m := hn
      rw [hloc] at hn
      obtain ⟨b0, b1, b2, b3, b4, b5⟩ := I3.fpOk (Nat.le_refl _) nC
      exact ⟨m, hn, fun h'' sb => ⟨.ref D, H5, I7.turned (t' := z6.toks) (fun b o hb e => (sb.2 b hb).trans e) b0 b1 b3 b4 b5, rfl, qq⟩⟩
    · refine thnF (T.item (X.blk z3 H3 sc ce fp) rfl rfl rfl hc i [] z5 _ H5 (fun _ _ => False) I5 (stay I5 n5) st5 go) fun r z6 ⟨u, hr, a⟩ => ?_
      subst hr
      refine thnF a fun _ z7 ⟨x, H7, I7, rx, y7, st7, n7⟩ => ?_
      refine thnF (pg.run _ z7 _ H7 x u _ (I7.pinned (stay I7 n7) (T.obj _ _ st7)) rx (step x H7 y7)) fun _ z8 ⟨σ8, H8, I8, hw8, q8⟩ => ?_
      refine thnF (dc2_second (Y := X.blk z3 H3 sc ce fp) (kx := kx) (vx := vx) (t1 := t1) (i1 := i1) (sc := sc) (ps := ps) (D := D) (vs1 := vs1) hc rfl pj pg2 pk pe I8 q8) fun y z9 a => thnF a fun i' z10 b => codeAny_mono b fun r z11 ⟨hr, H11, I11, hz⟩ => ⟨hr, ?_⟩
      obtain ⟨m', hm', w'⟩ := hZ _ hz
      have still : ∀ b ∈ fp, ∀ o, z7.heap.get? b = some o → z11.heap.get? b = some o ∧ H11 b = none := fun b hb o e => by
        have p := I11.pin (b, o) (List.mem_append_right _ (List.mem_append_right _ (mem_pinsAt hb e)))
        exact ⟨p.1, p.2.1⟩
      refine ⟨m', hm', i + 1, H11, (I11.unpinned (pins := [])).weak (by rw [← hw8, wipe_length, wipe_length]) (fun j v e => ?_), T.keep _ _ _ st7 fun b hb o e => (still b hb o e).1, fun b hb => ?_, w'⟩
      · rw [← hw8] at e
        obtain ⟨e1, e2⟩ := wipe_some e
        rw [wipe_out fun z => e2 (hv j z)]
        exact e1
      · obtain ⟨o, e, _⟩ := T.obj _ _ st7 b hb
        exact (still b hb o e).2
  subst hz4
  subst hce
  subst hz3
  exact codeAny_compStart_dict loop (T.self X.A 0 _ _ _ st4 loop)
end
end G
namespace G
open PySem PySem.Spec PyProof.Rows L2 StX
theorem Dk.append {β : Type} {f : V → β → Prop} : ∀ {a b : List (Key × V)} {l m : List (Str × β)}, Dk f a l → Dk f b m → Dk f (a ++ b) (l ++ m)
  | _, _, _, _, .nil, h => h
  | _, _, _, _, .cons x y, h => .cons x (y.append h)
theorem mergeD_append {β : Type} (l a b : List (Str × β)) : mergeD l (a ++ b) = mergeD (mergeD l a) b := by unfold mergeD; rw [List.foldl_append]
section
variable {W : Wd} {Γ : Gam} {tk tv : TE} {g g2 : TG} {wi wi2 : TI}
/-- a turn of the outer clause -/
def Dc2Turn {α β γ : Type} [Rep α] [Rep β] [Rep γ] (W0 W : Wd) (g : TG) (wi2 : TI) (g2 : TG) (tk tv : TE) (vs vs1 : List Nat) (Γ : Gam) (a : α) (f : List (Str × γ)) : Prop :=
  ∃ js : List Nat, (js.all fun j => vs.contains j) = true ∧ Tj W js g (wipeE Γ vs) a fun Γ1 => EvI W wi2 Γ1 fun bs : List β => ∃ h : β → Str × γ, bs.map h = f ∧
    ∀ W', Sub W0 W' → ∀ b ∈ bs, ∃ js2 : List Nat, (js2.all fun j => vs1.contains j) = true ∧ Tj W' js2 g2 (wipeE Γ1 vs1) b fun Γ2 => EvK W' tk Γ2 fun y : Str => y = (h b).1 ∧ EvK W' tv Γ2 fun z : γ => z = (h b).2
theorem putDc_len {β : Type} (l : List (Str × β)) (k : Str) (b : β) : (putDc l k b).length ≤ l.length + 1 := by
  unfold putDc
  split
  · rw [List.length_map]; omega
  · rw [List.length_append]; exact Nat.le_refl _
theorem mergeD_len {β : Type} : ∀ (m l : List (Str × β)), (mergeD l m).length ≤ l.length + m.length
  | [], l => Nat.le_refl _
  | (k, b) :: r, l => by
    show (mergeD (putDc l k b) r).length ≤ _
    have h1 := mergeD_len r (putDc l k b)
    have h2 := putDc_len l k b
    rw [List.length_cons]
    omega
theorem ev_dc2 {α β γ : Type} {rα : Rep α} {rβ : Rep β} {rγ : Rep γ} {vs vs1 : List Nat} (f : α → List (Str × γ)) {k : Dc γ → Prop}
    (h : EvI W wi Γ fun as : List α => ((as.flatMap f).length ≤ 100000) ∧ (∀ W', Sub W W' → ∀ a ∈ as, Dc2Turn (β := β) W W' g wi2 g2 tk tv vs vs1 Γ a (f a)) ∧ k ⟨mergeD [] (as.flatMap f)⟩) :
    EvK W (tDc2 wi g wi2 g2 tk tv vs vs1) Γ k := by
  intro σ H Q G c
  refine h σ H _ G fun J H1 as e1 it ⟨hbig, hs, hk⟩ D n => ?_
  have G1 := G.ext e1
  have nm : ¬ W.mu D := fresh_mu e1.ok n
  let P : List (Str × γ) → Hp → Prop := fun ys H' => Ext W H1 H' ∧ ∃ us, H' D = some (.dK us) ∧ Dk (den (W.toWc.plus D) H') us (mergeD [] ys)
  refine turns (J := J) (n := as.length) (fun i H' => P ((as.take i).flatMap f) H') ⟨Ext.new e1.ok n, [], upd_same, .nil⟩ (fun i H' hi ⟨e, _⟩ => it.go i H' e.keep hi) (fun H' ⟨e, _⟩ => it.stop H' e.keep) ?_ ?_
  · rintro i H' x H'' hi ⟨e, ws, hD, hw⟩ hy
    obtain ⟨a, ea, nw, -, dpl⟩ := it.yld i H' x H'' e.keep (fun a m => W.live H' a e.ok m) hi hy
    have da := dpl D _ n hD
    have e2 : Ext W H1 H'' := e.trans (nw.ext e.ok)
    have hD2 : H'' D = some (.dK ws) := nw.gr hD
    have hw2 : Dk (den (W.toWc.plus D) H'') ws (mergeD [] ((as.take i).flatMap f)) := hw.imp fun _ _ d => Rep.mono (W := W.toWc.plus D) nw.kp d
    have ham : a ∈ as := List.mem_of_getElem? ea
    have htk : (as.take (i + 1)).flatMap f = (as.take i).flatMap f ++ f a := by
      rw [List.take_succ, ea, List.flatMap_append]
      simp
    have hlen : ((as.take (i + 1)).flatMap f).length ≤ 100000 := by
      have e2 : (as.flatMap f).length = ((as.take (i + 1)).flatMap f).length + ((as.drop (i + 1)).flatMap f).length := by
        rw [← List.length_append, ← List.flatMap_append, List.take_append_drop]
      omega
    obtain ⟨js, hjs, tj⟩ := hs _ (Sub.plusO (o := .dK ws) (n := n) (o1 := e1.ok) (w1 := G1.wish)) a ham
    have kp : Kp (W.toWc.plus D) H1 H'' := fun b o mb z => e2.keep b o (fun z => mb (.inl z)) z
    have G2 : GOk (W.plusO D (.dK ws) H1 n e1.ok G1.wish) H'' σ Γ := ⟨⟨e2.ok, hD2⟩, fun b o mb z => e2.keep b o mb z, fun j t hj => by
      obtain ⟨u, h1, h2⟩ := G1.at_ j t hj
      exact ⟨u, h1, Ty.mono kp (t.r.grow D n h2)⟩, G1.len⟩
    refine tj (wipe σ vs) H'' x _ (G2.wipe vs) da fun σ2 Γ2 G3 m2 q2 => ⟨wipe_same m2 (js_in hjs), ?_⟩
    show wi2 σ2 H'' _
    refine q2 σ2 H'' _ G3 fun J1 H4 bs e4 it2 ⟨hf, hmap, turn⟩ => ?_
    have back4 : Ext W H1 H4 := ⟨fun b o mb z => by
      have hne : b ≠ D := fun q => by rw [q, n] at z; cases z
      exact e4.keep b o (fun q => q.elim mb hne) (e2.keep b o mb z), e4.ok.1⟩
    have hD4 : H4 D = some (.dK ws) := e4.ok.2
    have hw4 : Dk (den (W.toWc.plus D) H4) ws (mergeD [] ((as.take i).flatMap f)) := hw2.imp fun _ _ d => Rep.mono (W := W.toWc.plus D) e4.keep d
    refine turns (J := J1) (n := bs.length) (fun j H' => Kp (W.toWc.plus D) H4 H' ∧ P ((as.take i).flatMap f ++ (bs.take j).map hf) H') ⟨fun _ _ _ z => z, back4, ws, hD4, by simpa using hw4⟩ (fun j H' hj ⟨k, _⟩ => it2.go j H' k hj) (fun H' ⟨k, _⟩ => it2.stop H' k) ?_ ?_
    · rintro j H5 y H6 hj ⟨k5, e5, ws5, hD5, hw5⟩ hy2
      obtain ⟨b, eb, nw2, db, -⟩ := it2.yld j H5 y H6 k5 (fun a m => m.elim (fun m => W.live H5 a e5.ok m) fun e => ⟨_, (congrArg H5 e).trans hD5⟩) hj hy2
      have hbm : b ∈ bs := List.mem_of_getElem? eb
      have htk2 : (bs.take (j + 1)).map hf = (bs.take j).map hf ++ [hf b] := by
        rw [List.take_succ, eb, List.map_append]
        rfl
      have hlen5 : ((as.take i).flatMap f ++ (bs.take j).map hf).length ≤ 100000 := by
        have h1 : ((bs.take j).map hf).length ≤ (f a).length := by
          rw [← hmap, List.length_map, List.length_map]
          exact (List.take_sublist j bs).length_le
        rw [htk, List.length_append] at hlen
        rw [List.length_append]
        omega
      have e6 : Ext W H1 H6 := e5.trans (nw2.ext e5.ok)
      have hD6 : H6 D = some (.dK ws5) := nw2.gr hD5
      have k6 : Kp (W.toWc.plus D) H4 H6 := fun b o mb z => nw2.kp b o mb (k5 b o mb z)
      have hw6 : Dk (den (W.toWc.plus D) H6) ws5 (mergeD [] ((as.take i).flatMap f ++ (bs.take j).map hf)) := hw5.imp fun _ _ d => Rep.mono (W := W.toWc.plus D) nw2.kp d
      obtain ⟨js2, hjs2, tj2⟩ := turn _ (Sub.plusO (o := .dK ws5) (n := n) (o1 := e1.ok) (w1 := G1.wish)) b hbm
      have G4 := G3.ext e4
      have G6 : GOk (W.plusO D (.dK ws5) H1 n e1.ok G1.wish) H6 σ2 Γ2 := ⟨⟨e6.ok, hD6⟩, fun b o mb z => e6.keep b o mb z, fun q t hq => by
        obtain ⟨u, h1, h2⟩ := G4.at_ q t hq
        exact ⟨u, h1, Ty.mono (W := W.toWc.plus D) k6 h2⟩, G4.len⟩
      refine tj2 (wipe σ2 vs1) H6 y _ (G6.wipe vs1) db fun σ3 Γ3 G7 m3 q3 => ⟨wipe_same m3 (js_in hjs2), ?_⟩
      refine q3 σ3 H6 _ G7 fun yv H7 c0 e7 hc0 ⟨hcb, hv⟩ => ?_
      refine hv σ3 H7 _ (G7.ext e7) fun zv H8 c1 e8 hc1 hcb1 => ?_
      have hc0 : yv = .str c0 := hc0
      have e7' : Ext W H1 H7 := ⟨fun b o mb z => by
        have hne : b ≠ D := fun q => by rw [q, n] at z; cases z
        exact e7.keep b o (fun q => q.elim mb hne) (e6.keep b o mb z), e7.ok.1⟩
      have e8' : Ext W H1 H8 := ⟨fun b o mb z => by
        have hne : b ≠ D := fun q => by rw [q, n] at z; cases z
        exact e8.keep b o (fun q => q.elim mb hne) (e7'.keep b o mb z), e8.ok.1⟩
      refine ⟨ws5, .inr c0, hc0, e8.ok.2, ?_, ?_⟩
      · have h1 := mergeD_len ((as.take i).flatMap f ++ (bs.take j).map hf) []
        rw [hw5.length]
        exact Nat.lt_of_le_of_lt (Nat.le_trans h1 (by rw [List.length_nil]; omega)) (by decide : 100000 < sizeLine)
      · have kU : Kp (W.toWc.plus D) H8 (upd H8 D (.dK (putK ws5 (.inr c0) zv))) := fun b o mb z => by
          have hne : b ≠ D := fun q => mb (.inr q)
          rw [upd_ne hne]
          exact z
        refine ⟨fun b o mb z => kU b o mb (e8.keep b o mb (e7.keep b o mb (k6 b o mb z))), ⟨fun b o mb z => ?_, W.st _ _ _ e8'.ok nm⟩, _, upd_same, ?_⟩
        · have hne : b ≠ D := fun q => by rw [q, n] at z; cases z
          rw [upd_ne hne]
          exact e8'.keep b o mb z
        · rw [htk2, ← List.append_assoc, mergeD_append]
          subst hcb hcb1
          exact (Dk.put hc1 (hw6.imp fun _ _ d => Rep.mono (W := W.toWc.plus D) e8.keep (Rep.mono (W := W.toWc.plus D) e7.keep d))).imp fun _ _ d => Rep.mono (W := W.toWc.plus D) kU d
    · rintro H' ⟨k', p'⟩
      rw [List.take_length, hmap, ← htk] at p'
      exact p'
  · rintro H' ⟨e, us, hD, hw⟩
    rw [List.take_length] at hw
    exact c (.ref D) H' ⟨mergeD [] (as.flatMap f)⟩ (e1.trans e) ⟨D, us, rfl, ⟨nm, hD⟩, hw.imp fun _ _ d => Rep.shrink D d⟩ hk
end
end G
set_option Elab.async false
set_option linter.all false
set_option maxRecDepth 100000
set_option maxHeartbeats 2000000
namespace G
open PySem PySem.Spec PyProof.Rows L2 StX
/-- the keyword as it was written, or not at all -/
def KwOf (kn : Str) (dv v0 : V) (kws : List (Str × Value)) : Prop := (kws = [] ∧ v0 = dv) ∨ ∃ w0, kws = [(kn, w0)] ∧ RelV v0 w0
def spSK (sp : Sp) (v0 : V) : Sp := fun vs H Q E => ∃ a rest, vs = a :: rest ∧ rest.length ≤ sizeLine ∧ ∀ p, H p = Option.none → sp [a, v0, .ref p] (upd H p (.tup rest)) Q E
def FnSK (P : Program) (w : World) (K : PySem.W.Frag) (mg : Str → Option Value) (base : Heap) (CX : CXT) (k : Nat) (f : Addr) (kn : Str) (dv : V) (sp : Sp) : Prop :=
  ∀ (A : Around) (outer : List Env) (s : Shared) (H : Hp) (us : List Value) (vs : List V) (kws : List (Str × Value)) (v0 : V) (Q : VK) (E : XK), Room k A → Env0 P w K mg base A outer s H → Vals vs us → KwOf kn dv v0 kws → spSK sp v0 vs H Q E →
    codeAny (model P w) A (.call (.ref f) ⟨us, kws⟩) (CR CX outer P w H s Q E) s
/-- what the text says of such a def -/
structure DefSK (K : PySem.W.Frag) (name qual : Str) (st : Stmt) (p1 pv kn : Str) (dv : V) (f : Addr) : Prop where
  ex : ∃ (oc : Value) (od : Option Addr) (D : Addr) (u doc pm : Value) (an : Option Addr) (cdv ct : Value) (osl : Array (Option Value)),
    K.lookup f = some ⟨oc, od, .func (PySem.W.fnOf name qual (defArgs st) (defBody st) (defScope st) .none (.ref D) doc pm an cdv ct), osl⟩ ∧ PySem.W.codeIn K cdv qual = true ∧ PySem.W.nsIn K D kn = some (some u) ∧ RelV dv u ∧
    (∀ (a w0 : Value) (rest : List Value), bindArgs (PySem.W.fnOf name qual (defArgs st) (defBody st) (defScope st) .none (.ref D) doc pm an cdv ct) ⟨a :: rest, [(kn, w0)]⟩ = (newTuple rest >>= fun t => pure [(p1, a), (kn, w0), (pv, t)])) ∧
    (∀ (a : Value) (rest : List Value), ∃ (β γ : Type) (k1 : Option Value → Sem β) (k2 : β → Sem γ) (k3 : γ → Sem (List (Str × Value))) (b : β), bindArgs (PySem.W.fnOf name qual (defArgs st) (defBody st) (defScope st) .none (.ref D) doc pm an cdv ct) ⟨a :: rest, []⟩ = ((nsGet D kn >>= k1) >>= k2) >>= k3 ∧ k1 (some u) = pure b ∧
      (k2 b >>= k3) = (newTuple rest >>= fun t => pure [(p1, a), (kn, u), (pv, t)]))
theorem fnSK_of {CX : CXT} {P : Program} {w : World} {K : PySem.W.Frag} {mg : Str → Option Value} {base : Heap} {st : Stmt} {N : List Str} {p1 pv kn : Str} {dv : V} {k : Nat} {sp : Sp} {f : Addr} {name qual : Str} (hCX : CXUp CX) (D : DefSK K name qual st p1 pv kn dv f) (S : FnScope N [p1, kn, pv] (defScope st))
    (hbody : ∀ (cdv : Value) (A : Around) (outer : List Env) (s : Shared) (H : Hp) (vs : List V) (Q : VK) (E : XK), Room k (A.deeper (envOfC qual (defScope st) s.heap.objs.size f cdv)) → sp vs H Q E →
      ∃ t, PSs (cxOf CX P w K mg base N qual (defScope st) f cdv A outer s H E) (defBody st) t ∧ t { nx := fun _ H' => Q .non H', rt := Q } (L2.start N vs) H) :
    FnSK P w K mg base CX (k + 1) f kn dv sp := by
  obtain ⟨oc, od, D0, u, doc, pm, an, cdv, ct, osl, lk, hcd, hns, ru, hb1, hb0⟩ := D.ex
  intro A outer s H us vs kws v0 Q E hr e0 r hk hsp
  obtain ⟨a, rest, ev, hz, hq⟩ := hsp
  subst ev
  cases r with
  | @cons a ua _ u2 ra r2 =>
  have KX : K.In s.heap := e0.mod.kin.keeps fun b o e => (e0.bs b o e).1
  have hn : H s.heap.objs.size = Option.none := e0.hok.fresh (Nat.le_refl _)
  have hl2 : u2.length ≤ sizeLine := by rw [← r2.length]; exact hz
  obtain ⟨w0, hw0, rw0⟩ : ∃ w0 : Value, (∀ (A' : Around) (Ex : Value → Shared → Prop) (Q' : List (Str × Value) → Shared → Prop), wpAny (model P w) A' (newTuple u2 >>= fun t => pure [(p1, ua), (kn, w0), (pv, t)]) Q' Ex s →
      wpAny (model P w) A' (bindArgs (PySem.W.fnOf name qual (defArgs st) (defBody st) (defScope st) .none (.ref D0) doc pm an cdv ct) ⟨ua :: u2, kws⟩) Q' Ex s) ∧ RelV v0 w0 := by
    rcases hk with ⟨rfl, rfl⟩ | ⟨w0, rfl, r0⟩
    · refine ⟨u, fun A' Ex Q' h => ?_, ru⟩
      obtain ⟨β, γ, k1, k2, k3, b, e1, e2, e3⟩ := hb0 ua u2
      rw [e1, bind_assoc]
      have l1 : PySem.W.Looks (model P w) s.heap (nsGet D0 kn >>= k1) b := (PySem.W.looks_nsIn KX hns).andThen (PySem.W.Looks.of_pure e2)
      refine wpAny_bind (l1.here ?_)
      show wpAny _ _ (k2 b >>= k3) _ _ _
      rw [e3]
      exact h
    · exact ⟨w0, fun A' Ex Q' h => by rw [hb1 ua w0 u2]; exact h, r0⟩
  refine run_bnd lk hcd S hr e0 (G := fun xs H2 => ∃ p, H p = Option.none ∧ xs = [a, v0, V.ref p] ∧ H2 = upd H p (.tup rest)) (fun A' Ex Q' h => ?_) fun s2 H2 xs ⟨p, hp, ex, eH⟩ hr' => ?_
  · refine hw0 A' Ex Q' ?_
    refine wpAny_bind (wpAny_newTuple (wpAny_pure ?_) hl2)
    have new : ObjOk P w (upd H s.heap.objs.size (.tup rest)) (s.heap.push ({ cls := .type "tuple", data := .seq u2.toArray } : Obj)) s.heap.objs.size (.tup rest) := ⟨hz, u2, r2, ⟨_, Heap.get?_push_size _ rfl, rfl, _, rfl⟩⟩
    have un := un_laid (fs := frs outer) (s := s) (o := ({ cls := .type "tuple", data := .seq u2.toArray } : Obj)) (u := .tup rest) hn
    exact h _ _ [a, v0, V.ref s.heap.objs.size] [ua, w0, Value.ref s.heap.objs.size] (env0_laid e0 new) un rfl (fun e s' => hCX outer s H _ _ E e s' un (fun b o q => Heap.get?_push_of_some _ q) rfl) (.cons ra (.cons rw0 (.cons rfl .nil))) rfl ⟨_, hn, rfl, rfl⟩
  · subst ex eH
    exact hbody cdv A outer s2 _ _ Q E hr' (hq p hp)
theorem FnSK.mono {P : Program} {w : World} {K : PySem.W.Frag} {mg : Str → Option Value} {base : Heap} {CX : CXT} {j k : Nat} {f : Addr} {kn : Str} {dv : V} {sp : Sp} (F : FnSK P w K mg base CX j f kn dv sp) (h : j ≤ k) : FnSK P w K mg base CX k f kn dv sp := fun A outer s H us vs kws v0 Q E hr => F A outer s H us vs kws v0 Q E (hr.mono h)
def tMakeSK (C : Addr) (sp : Sp) (E : L2.St → XK) (v0 : V) (xs : List V) : Hp → L2.St → VK → Prop := fun H σ Q => ∀ x dx, H x = none → H dx = none → dx ≠ x → spSK sp v0 (.ref x :: xs) (upd (upd H dx (.own x)) x (.ins C dx [])) (fun v H3 => v = .non ∧ Q (.ref x) H3) (E σ)
section
variable {X : Cx} {CX : CXT} {k n : Nat} {f g C p : Addr} {sp : Sp} {E : L2.St → XK} {x kn : Str} {dv : V} {o e e2 : Expr} {es : List Expr} {te tk to tb : TE} {t : TA} {pp sp_ pos apos kp_ : Pos}
theorem run_makeSK {pins : List (Addr × Obj)} {σ : L2.St} {H : Hp} {s : Shared} {Q : VK} {us : List Value} {vs : List V} {kws : List (Str × Value)} {v0 : V} (M : Mk X.K C f) (F : FnSK X.prog X.w X.K X.mg X.base CX k f kn dv sp) (hr : Room (k + 1) X.A) (hx : PassesAt CX X σ (E σ)) (I : L2.Inv X pins σ H s) (r : Vals vs us) (hk : KwOf kn dv v0 kws)
    (q : tMakeSK C sp E v0 vs H σ Q) : wpAny (model X.prog X.w) X.A (call (.ref C) us kws) (EP X pins σ Q) X.xe s := by
  have I2 := I.made (C := C)
  have n1 : H s.heap.objs.size = none := I.hok.fresh (Nat.le_refl _)
  have n2 : H (s.heap.objs.size + 1) = none := I.hok.fresh (Nat.le_succ _)
  have hq := q _ _ n2 n1 (Nat.ne_of_lt (Nat.lt_succ_self _))
  refine wpAny_call (make_map I.kIn M.makes M.init (by simpa [PySem.W.isFn] using M.fn) (codeAny_mono (F _ X.stack _ _ (.ref (s.heap.objs.size + 1) :: us) _ kws v0 _ (E σ) (hr.make C us kws) (I2.env0.make C us kws) (.cons (show L2.RelV (.ref _) (.ref _) from rfl) r) hk hq) fun r s' h => ?_))
  cases r with
  | error e => exact hx pins _ _ e s' I2 h
  | ok fl =>
    cases fl with
    | ret u =>
      obtain ⟨v, H3, os2, bare2, un2, hok2, rv, ev, q3⟩ := h
      subst ev
      exact ⟨rv, .ref _, H3, I2.call' os2 un2 hok2 bare2 (fun b hb => (nomatch hb)), rfl, q3⟩
    | next => exact False.elim h
    | brk => exact False.elim h
    | cont => exact False.elim h
/-- a lone star ahead of one keyword: the keyword is had before the star's items -/
theorem ks_loneK {M : Model} {A : Around} {E : Value → Shared → Prop} {s : Shared} {f : Value} {x y : Sem Value} {pos : Pos} {kn : Str} {Q : Args → Shared → Prop}
    (h : wpAny M A x (fun v s₁ => wpAny M A y (fun w s₂ => PySem.W.StarOf M A E v (fun vs s₃ => Q ⟨vs, [(kn, w)]⟩ s₃) s₂) E s₁) E s) :
    wpAny M A (evalArgs f true [(true, (do let v ← x; standAt pos; pure v))] [(some kn, (do let v ← y; standAt pos; pure v))]) Q E s := by
  unfold evalArgs
  first
    | refine wpAny_bind (wpAny_bind (wpAny_mono h (fun v s₁ h₁ => wpAny_bind (wpAny_standAt (wpAny_pure ?_))) fun _ _ x => x))
    | refine wpAny_bind (wpAny_bind (wpAny_bind (wpAny_mono h (fun v s₁ h₁ => wpAny_bind (wpAny_standAt (wpAny_pure (wpAny_pure ?_)))) fun _ _ x => x)))
  refine wpAny_holding ?_
  show wpAny M A (evalAll [(do let v ← y; standAt pos; pure v)] >>= _) Q E s₁
  refine wpAny_bind (wpAny_evalAll_cons (wpAny_bind (wpAny_mono h₁ (fun w s₂ h₂ => wpAny_bind (wpAny_standAt (wpAny_pure (wpAny_evalAll_nil ?_)))) fun _ _ x => x)))
  unfold PySem.W.StarOf at h₂
  refine wpAny_bind (wpAny_bind (wpAny_mono h₂ (fun b s₃ h₃ => ?_) fun _ _ x => x))
  obtain ⟨rfl, h₃⟩ := h₃
  have z := wpAny_holding (vs := [w]) (wpAny_mono h₃ (fun vs s₄ h₄ => (wpAny_pure h₄ : wpAny M A (pure (⟨vs, [(kn, w)]⟩ : Args)) Q E s₄)) fun _ _ x => x)
  try simp only [Bool.false_eq_true, if_false]
  first
    | exact z
    | exact wpAny_bind (wpAny_pure z)
/-- as ks_call, with keywords -/
theorem ks_callK {M : Model} {A : Around} {E : Value → Shared → Prop} {s : Shared} {f : Value} {first : List Value} {pos : Pos} {Q : Value → Shared → Prop} {P : Heap → Prop} {args : List (Bool × Sem Value)} {keywords : List (Option Str × Sem Value)} (hst : args.any (·.1) = true)
    (hk : ∀ h, P h → ∃ k, (k = Keeper.frame ∨ k = Keeper.machine ∨ k = Keeper.boundFrame) ∧ PySem.W.Looks M h (keeperOf f) k)
    (h : wpAny M A (evalArgs f true args keywords) (fun a s₁ => P s₁.heap ∧ wpAny M A (call f (first ++ a.pos) a.kw) Q E s₁) E s) : wpAny M A (callWith pos f first args keywords) Q E s := by
  unfold callWith
  refine wpAny_bind (wpAny_holding (wpAny_mono h (fun a s₁ h₁ => wpAny_bind (wpAny_standAt ?_)) fun _ _ x => x))
  obtain ⟨k, hk', L⟩ := hk _ h₁.1
  simp only [hst, Bool.true_or]
  refine wpAny_bind (L.here ?_)
  have tail : ∀ {t : Sem Value}, wpAny M A t Q E s₁ → wpAny M A (t >>= fun r => holding [r] point >>= fun _ => pure r) Q E s₁ :=
    fun ht => wpAny_bind (wpAny_mono ht (fun r s₂ hr => wpAny_bind (wpAny_holding (wpAny_point (wpAny_pure hr)))) fun _ _ x => x)
  have marked (mk : Value) : wpAny M A (callMarked mk f (first ++ a.pos) a.kw) Q E s₁ := by unfold callMarked; exact Calls.wpAny_keep h₁.2
  rcases hk' with rfl | rfl | rfl <;> dsimp only <;> first | exact tail (marked _) | exact tail (wpAny_operating h₁.2)
end
end G
set_option Elab.async false
set_option linter.all false
set_option maxRecDepth 100000
set_option maxHeartbeats 2000000
namespace G
open PySem PySem.Spec PyProof.Rows L2 StX
section
variable {W : Wd} {F : Hp} {L : OwnH} {Γ : Gam} {ta tb te tv to : TE} {tt : TT} {t u : TS} {R : PoH} {g : TG} {wi : TI} {K : PySem.W.Frag}
theorem sxh_forI {α : Type} {rα : Rep α} (h : ∀ Wo, OwnHW W L Wo → EvI Wo wi Γ fun as : List α => ∃ I : Nat → OwnH → Gam → Prop, I 0 L Γ ∧ (∀ i L' Γ', I i L' Γ' → keysH L' = keysH L) ∧
      (∀ (i : Nat) (a : α) L' Γ', as[i]? = some a → I i L' Γ' → ∀ Wo', OwnHW W L' Wo' → Tg Wo' g Γ' a fun Γ1 => SxH W F t L' Γ1 { R with nx := I (i + 1), ct := I (i + 1), bk := R.nx }) ∧ ∀ L' Γ', I as.length L' Γ' → R.nx L' Γ') : SxH W F (tFor wi g t) L Γ R :=
  fun D σ H oF nF wF nd G O => h _ (ownH_w wF) σ H _ G fun J H1 as e1 it ⟨I, h0, hI, hs, hl⟩ => by
    have G1 := G.ext e1
    have O1 := O.step G1.ok.1 (ownH_stp e1)
    refine ⟨fun i m σ' H' => m = as.length - i ∧ i ≤ as.length ∧ ∃ L' oF nF Γ', StpH W L H1 L' H' ∧ (keysH L').Nodup ∧ GOk (W.ownH F L' oF nF) H' σ' Γ' ∧ I i L' Γ', ⟨_, rfl, Nat.zero_le _, L, oF, nF, Γ, .refl, nd, G1, h0⟩, ?_⟩
    rintro i m σ' H' ⟨rfl, hi, L', oF', nF', Γ', s, nd', G', q⟩
    have hks := hI i L' Γ' q
    by_cases hlt : i < as.length
    · refine .inr ⟨it.go i H' s.1 hlt, fun σ2 H2 => ∃ L2 oF nF Γ2, StpH W L H1 L2 H2 ∧ (keysH L2).Nodup ∧ GOk (W.ownH F L2 oF nF) H2 σ2 Γ2 ∧ I (i + 1) L2 Γ2, fun σ2 H2 ⟨L2, oF2, nF2, Γ2, s2, nd2, G2, q2⟩ => ⟨as.length - (i + 1), by omega, rfl, hlt, L2, oF2, nF2, Γ2, s2, nd2, G2, q2⟩, fun x H2 y => ?_⟩
      obtain ⟨a, ea, nw, da, _⟩ := it.yld i H' x H2 s.1 (fun b mb => (W.ownH F L' oF' nF').live H' b G'.ok (by
        show (W.toWc.plusL (keysH L')).mu b
        rw [hks]
        exact mb)) hlt y
      have e3 : Ext (W.ownH F L' oF' nF') H' H2 := nw.ext G'.ok
      obtain ⟨js, hj⟩ := hs i a L' Γ' ea q _ (ownH_w (oF := oF') (nF := nF') wF)
      have da' : den (W.ownH F L' oF' nF').toWc H2 x a := by
        show den (W.toWc.plusL (keysH L')) H2 x a
        rw [hks]
        exact da
      refine hj σ' H2 x _ (G'.ext e3) da' fun σ3 Γ3 G3 _ q3 => ?_
      have s3 : StpH W L H1 L' H2 := s.trans G'.ok.1 (ownH_stp e3)
      have o2 : W.ok H2 := G3.ok.1
      exact q3 _ σ3 H2 oF' nF' wF nd' G3 ⟨fun L4 oF4 nF4 σ4 H4 Γ4 s4 nd4 G4 q4 => ⟨L4, oF4, nF4, Γ4, s3.trans o2 s4, nd4, G4, q4⟩, fun v H4 t e d q4 => O.rt v H4 t e d q4, fun L4 oF4 nF4 σ4 H4 Γ4 s4 nd4 G4 q4 => O1.nx L4 oF4 nF4 σ4 H4 Γ4 (s3.trans o2 s4) nd4 G4 q4, fun L4 oF4 nF4 σ4 H4 Γ4 s4 nd4 G4 q4 => ⟨L4, oF4, nF4, Γ4, s3.trans o2 s4, nd4, G4, q4⟩⟩
    · have : i = as.length := by omega
      subst this
      exact .inl ⟨it.stop H' (by exact s.1), O1.nx L' oF' nF' σ' H' Γ' s nd' G' (hl L' Γ' q)⟩
/-- how slots are seen once the own thing o at q has come to rest -/
inductive RestQ (B : Bs) (q : Addr) (o : HO) : Gam → Gam → Prop
  | nil : RestQ B q o [] []
  | conv {t t' : Ty} {Γ Γ' : Gam} : (∀ (W : Wc) (H : Hp) (v : V), W.B = B → ¬ W.mu q → H q = some o → t.den (W.plus q) H v → t'.den W H v) → RestQ B q o Γ Γ' → RestQ B q o (some t :: Γ) (some t' :: Γ')
  | same {t : Option Ty} {Γ Γ' : Gam} : RestQ B q o Γ Γ' → RestQ B q o (t :: Γ) (t :: Γ')
  | drop {t : Option Ty} {Γ Γ' : Gam} : RestQ B q o Γ Γ' → RestQ B q o (t :: Γ) (none :: Γ')
theorem RestQ.len {B : Bs} {q : Addr} {o : HO} {Γ Γ' : Gam} (h : RestQ B q o Γ Γ') : Γ.length = Γ'.length := by
  induction h with
  | nil => rfl
  | conv _ _ ih => exact congrArg (· + 1) ih
  | same _ ih => exact congrArg (· + 1) ih
  | drop _ ih => exact congrArg (· + 1) ih
theorem RestQ.slots {B : Bs} {q : Addr} {o : HO} {Γ Γ' : Gam} (f : RestQ B q o Γ Γ') {W : Wc} {H : Hp} (hB : W.B = B) (nm : ¬ W.mu q) (hq : H q = some o) : ∀ (i : Nat) (t : Ty), Γ'[i]? = some (some t) → ∃ u, Γ[i]? = some (some u) ∧ ∀ v, u.den (W.plus q) H v → t.den W H v := by
  induction f with
  | nil => intro i t h; simp at h
  | @conv t0 t1 Γ Γ' hc _ ih =>
    intro i t h
    cases i with
    | zero =>
      have h' : some (some t1) = some (some t) := by simpa using h
      cases h'
      exact ⟨t0, rfl, fun v d => hc W H v hB nm hq d⟩
    | succ i => exact ih i t (by simpa using h)
  | @same t0 Γ Γ' _ ih =>
    intro i t h
    cases i with
    | zero =>
      have h' : some t0 = some (some t) := by simpa using h
      cases h'
      exact ⟨t, rfl, fun v d => t.r.shrink q d⟩
    | succ i => exact ih i t (by simpa using h)
  | @drop t0 Γ Γ' _ ih =>
    intro i t h
    cases i with
    | zero =>
      have h' : some (none : Option Ty) = some (some t) := by simpa using h
      cases h'
    | succ i => exact ih i t (by simpa using h)
/-- the own thing that stands first comes to rest -/
theorem sxh_rest {q : Addr} {o : HO} {Γ' : Gam} (f : RestQ W.B q o Γ Γ') (h : SxH W F t L Γ' R) : SxH W F t ((q, o) :: L) Γ R := fun D σ H oF nF wF nd G O => by
  have nF' : ∀ k ∈ keysH L, F k = none := fun k hk => nF k (List.mem_cons_of_mem _ hk)
  have hqL : q ∉ keysH L := (List.nodup_cons.mp nd).1
  have nmq : ¬ W.mu q := fresh_mu oF (nF q List.mem_cons_self)
  have nm2 : ¬ (W.toWc.plusL (keysH L)).mu q := fun z => (plusL_mu.mp z).elim nmq hqL
  have G' : GOk (W.ownH F L oF nF') H σ Γ' := ⟨⟨G.ok.1, fun x hx => G.ok.2 x (List.mem_cons_of_mem _ hx)⟩, G.wish, fun i t ht => by
    obtain ⟨u, hu, hc⟩ := f.slots (W := W.toWc.plusL (keysH L)) (H := H) plusL_B nm2 (G.ok.2 _ List.mem_cons_self) i t ht
    obtain ⟨v, h2, h3⟩ := G.at_ i u hu
    exact ⟨v, h2, hc v h3⟩, G.len.trans f.len⟩
  have st : ∀ {L' : OwnH} {H' : Hp}, StpH W L H L' H' → StpH W ((q, o) :: L) H L' H' := fun s => ⟨fun a u m z => s.1 a u (fun m2 => m (by
    rcases plusL_mu.mp m2 with m2 | m2
    · exact plusL_mu.mpr (.inl m2)
    · exact plusL_mu.mpr (.inr (List.mem_cons_of_mem _ m2)))) z, fun k hk => (s.2 k hk).imp (fun h => List.mem_cons_of_mem _ h) fun h => h⟩
  exact h D σ H oF nF' wF (List.nodup_cons.mp nd).2 G' ⟨fun L' oF' nF2 σ' H' Γ2 s nd' G2 z => O.nx L' oF' nF2 σ' H' Γ2 (st s) nd' G2 z, O.rt, fun L' oF' nF2 σ' H' Γ2 s nd' G2 z => O.bk L' oF' nF2 σ' H' Γ2 (st s) nd' G2 z, fun L' oF' nF2 σ' H' Γ2 s nd' G2 z => O.ct L' oF' nF2 σ' H' Γ2 (st s) nd' G2 z⟩
/-- self.f = e in the world as it is -/
theorem sxh_setnW {α β : Type} {rα : Rep α} {fβ : FRep β} {f : Str} {i : Nat} (n : Nat) {p dx : Addr} {c : Cn} {fs : List (Str × V)} {b : β}
    (hK : W.B.K = K) (hc : L2.Cls K (W.B.cl c)) (hn : NoAttr K (W.B.cl c) f) (hk : L[n]? = some (p, .ins (W.B.cl c) dx fs)) (hi : Γ[i]? = some (some (T (Oi.mk p c dx fs b)))) (hl : (FRep.nms b).length < 1000) (hm : f ∉ FRep.nms b)
    (h : ∀ (oF : W.ok F) (nF : ∀ k ∈ keysH L, F k = none), W.wish F → EvK (W.ownH F L oF nF) tv Γ fun a : α => ∀ fs', R.nx (L.set n (p, .ins (W.B.cl c) dx fs')) (Γ.set i (some (T (Oi.mk p c dx fs' ((⟨f, a⟩, b) : Fd α × β)))))) : SxH W F (sFld K (tVar i) tv f) L Γ R := fun D σ H oF nF wF nd G O => by
  subst hK
  refine h oF nF wF σ H _ G fun y H1 a e1 dy q => ?_
  have G1 := G.ext e1
  obtain ⟨h1, h2⟩ := oi_at G1 hi
  have hp := G1.ok.2 _ (List.mem_of_getElem? hk)
  have hlen : fs.length < 1000 := by
    have := FRep.nm h2
    have e := congrArg List.length this
    rw [List.length_map] at e
    have e : fs.length = (FRep.nms b).length := e
    omega
  refine ⟨_, h1, p, _, dx, fs, rfl, hp, hc, hn, hlen, ?_⟩
  exact ownH_put (T (Oi.mk p c dx _ ((⟨f, a⟩, b) : Fd α × β))) nd G1 (O.step G1.ok.1 (ownH_stp e1)) hk h1 (fun kp => ⟨rfl, FRep.mono kp ⟨y, fs, putF_new (by rw [FRep.nm (b := b) h2]; exact hm), dy, h2⟩⟩) (q _)
/-- self.f = [..], the new list an own thing from now on -/
theorem sxh_setOl {α β : Type} {rα : Rep α} {fβ : FRep β} {f : Str} {i : Nat} {p dx : Addr} {c : Cn} {fs : List (Str × V)} {b : β}
    (hK : W.B.K = K) (hc : L2.Cls K (W.B.cl c)) (hn : NoAttr K (W.B.cl c) f) (hi : Γ[i]? = some (some (T (Oi.mk p c dx fs b)))) (hl : (FRep.nms b).length < 1000) (hm : f ∉ FRep.nms b)
    (h : ∀ Wo, OwnHW W ((p, .ins (W.B.cl c) dx fs) :: L) Wo → EvF Wo tv Γ fun as : List α => ∀ q vs fs', R.nx ((q, .lst vs) :: (p, .ins (W.B.cl c) dx fs') :: L) (Γ.set i (some (T (Oi.mk p c dx fs' ((⟨f, ⟨q, vs, as⟩⟩, b) : Fd (Ol α) × β)))))) : SxH W F (sFld K (tVar i) tv f) ((p, .ins (W.B.cl c) dx fs) :: L) Γ R := fun D σ H oF nF wF nd G O => by
  subst hK
  refine h _ (ownH_w wF) σ H _ G fun q H1 vs as nq e1 hq hd z => ?_
  have G1 := G.ext e1
  obtain ⟨h1, h2⟩ := oi_at G1 hi
  have hp := G1.ok.2 _ List.mem_cons_self
  have hlen : fs.length < 1000 := by
    have := FRep.nm h2
    have e := congrArg List.length this
    rw [List.length_map] at e
    have e : fs.length = (FRep.nms b).length := e
    omega
  refine ⟨_, h1, p, _, dx, fs, rfl, hp, hc, hn, hlen, ?_⟩
  have O1 := O.step G1.ok.1 (ownH_stp e1)
  -- q joins the own things, then p changes
  have nFq : F q = none := fresh_FH G.ok.1 G.wish nq
  have hqk : q ∉ keysH ((p, HO.ins (W.B.cl c) dx fs) :: L) := fun hk => by
    obtain ⟨x, hx, ex⟩ := List.mem_map.mp hk
    have := G.ok.2 x hx
    rw [ex, nq] at this
    cases this
  have nF2 : ∀ k ∈ keysH ((q, HO.lst vs) :: (p, HO.ins (W.B.cl c) dx fs) :: L), F k = none := fun k hk => by
    rcases List.mem_cons.mp hk with rfl | hk
    · exact nFq
    · exact nF k hk
  have G2 : GOk (W.ownH F ((q, .lst vs) :: (p, .ins (W.B.cl c) dx fs) :: L) oF nF2) H1 σ Γ := ⟨⟨G1.ok.1, fun x hx => by
    rcases List.mem_cons.mp hx with rfl | hx
    · exact hq
    · exact G1.ok.2 x hx⟩, G1.wish, fun j t ht => by
      obtain ⟨v, h3, h4⟩ := G.at_ j t ht
      exact ⟨v, h3, Ty.mono (W := (W.toWc.plusL (keysH ((p, HO.ins (W.B.cl c) dx fs) :: L))).plus q) (fun b u m z => e1.keep b u (fun z => m (.inl z)) z) (t.r.grow q nq h4)⟩, G1.len⟩
  obtain ⟨g1, g2⟩ := oi_at G2 hi
  have s2 : StpH W ((p, .ins (W.B.cl c) dx fs) :: L) H ((q, .lst vs) :: (p, .ins (W.B.cl c) dx fs) :: L) H1 := ⟨e1.keep, fun k hk => by
    rcases List.mem_cons.mp hk with rfl | hk
    · exact .inr nq
    · exact .inl hk⟩
  have := ownH_put (L := (q, .lst vs) :: (p, .ins (W.B.cl c) dx fs) :: L) (k := 1) (i := i) (o' := .ins (W.B.cl c) dx (putF f (.ref q) fs)) (T (Oi.mk p c dx (putF f (.ref q) fs) ((⟨f, ⟨q, vs, as⟩⟩, b) : Fd (Ol α) × β))) (List.nodup_cons.mpr ⟨hqk, nd⟩) G2 (O.step G2.ok.1 s2) rfl g1
    (fun kp => ⟨rfl, FRep.mono kp ⟨.ref q, fs, putF_new (by rw [FRep.nm (b := b) g2]; exact hm), ⟨rfl, hd⟩, g2⟩⟩) (z q vs (putF f (.ref q) fs))
  exact this
end
end G
set_option Elab.async false
set_option linter.all false
set_option maxRecDepth 100000
set_option maxHeartbeats 2000000
namespace G
open PySem PySem.Spec PyProof.Rows L2 StX
section
variable {X : Cx} {CX : CXT} {k n : Nat} {f g C p : Addr} {sp : Sp} {E : L2.St → XK} {x kn : Str} {dv : V} {o e e2 : Expr} {es : List Expr} {te tk to tb : TE} {t : TA} {pp sp_ pos apos kp_ : Pos}
def tMakeVSK (i : Nat) (C : Addr) (sp : Sp) (E : L2.St → XK) (K : PySem.W.Frag) (te tk : TE) : TE := fun σ H Q => ∃ v, σ[i]? = some (some v) ∧ v = .ref C ∧ te σ H fun y H1 => tk σ H1 fun v0 H2 => ∃ a xs, y = .ref a ∧ (SqT K H2 a xs ∨ SqL K H2 a xs) ∧ tMakeSK C sp E v0 xs H2 σ Q
/-- x(*y, kn = e2), x a local name that holds the class at C -/
theorem pe_makeVSK (K : PySem.W.Frag) {i : Nat} (M : Mk X.K C f) (F : FnSK X.prog X.w X.K X.mg X.base CX k f kn dv sp) (hr : Room (k + 1) X.A) (hx : ∀ σ, PassesAt CX X σ (E σ)) (hN : X.N[i]? = some x) (hv : Vis X.env.scope x)
    (he : PE X e te) (hk : PE X e2 tk) (hK : X.K = K := by rfl) (hdb : (x == ("__debug__" : Str)) = false := by decide) (hcd : (x == ("__classdict__" : Str)) = false := by decide)
    (hst : backTo pos (starEach [.Starred e sp_] X.env) = [(true, (do let v ← eval e X.env; standAt pos; pure v))] := by rfl)
    (hkw : backToKw pos (keywordEach [⟨some kn, e2, kp_⟩] X.env) = [(some kn, (do let v ← eval e2 X.env; standAt pos; pure v))] := by rfl) :
    PE X (.Call (.Name x pp) [.Starred e sp_] [⟨some kn, e2, kp_⟩] pos) (tMakeVSK i C sp E K te tk) := by
  subst hK
  refine ⟨fun pins s σ H Q I h => ?_⟩
  obtain ⟨v, h1, h2, h3⟩ := h
  subst h2
  refine wpAny_Call_Name_kw (thn ((pe_var (pos := pp) hN hv hdb hcd).run pins s σ H (fun v H' => v = .ref C ∧ te σ H' fun y H1 => tk σ H1 fun v0 H2 => ∃ a xs, y = .ref a ∧ (SqT X.K H2 a xs ∨ SqL X.K H2 a xs) ∧ tMakeSK C sp E v0 xs H2 σ Q) I ⟨_, h1, rfl, h3⟩) fun u s0 ⟨y, H0, I0, ry, ey, q0⟩ => ?_)
  subst ey
  obtain rfl : u = Value.ref C := ry
  rw [hst, hkw]
  refine ks_callK rfl (PySem.W.keeps_K M.kp) (ks_loneK (thn (he.run pins s0 σ H0 _ I0 q0) fun v s1 ⟨y, H1, I1, ry, q1⟩ => thn (hk.run pins s1 σ H1 _ I1 q1) fun w s2 ⟨v0, H2, I2, rw0, a, xs, ey, hxs, q2⟩ => ?_))
  subst ey
  obtain rfl : v = Value.ref a := ry
  exact star_any I2 hxs fun us s3 I3 rv => ⟨I3.kIn, run_makeSK M F hr (hx σ) I3 rv (.inr ⟨w, rfl, rw0⟩) q2⟩
end
/-- a value of any kind -/
def EvO (W : Wd) (te : TE) (Γ : Gam) (k : Ty → Prop) : Prop := ∀ σ H (Q : VK), GOk W H σ Γ → (∀ v H' (o : Ty), Ext W H H' → o.den W H' v → k o → Q v H') → te σ H Q
section
variable {W : Wd} {Γ : Gam} {te tk : TE} {ta : TA} {B : Bs} {K : PySem.W.Frag}
theorem eo_var {i : Nat} {o : Ty} {k : Ty → Prop} (h : Γ[i]? = some (some o)) (q : k o) : EvO W (tVar i) Γ k := fun σ H Q G c => by
  obtain ⟨v, h1, h2⟩ := G.at_ i _ h
  exact ⟨v, h1, c v H o (Ext.refl G.ok) h2 q⟩
theorem makeSK_run {α β γ : Type} {rα : Rep α} {rγ : Rep γ} {fβ : FRep β} {P : PI β} {E : L2.St → XK} {x : Xn → Prop} {k : α → Prop} {c : Cn} {o : Ty} {v0 : V} {rest : List V} {as : List γ} {σ : L2.St} {H1 : Hp} {Q : VK} (mk : β → α) (good : β → Prop) (hx : HX W Γ E x) (G : GOk W H1 σ Γ)
    (hden : ∀ (W' : Wc) (H : Hp) (p dx : Addr) (fs : List (Str × V)) (b : β), W'.B = W.B → ¬ W'.mu p → H p = some (.ins (W.B.cl c) dx fs) → FRep.fd W' H fs b → good b → den W' H (.ref p) (mk b))
    (d0 : o.den W H1 v0) (dr : Dl (den W H1) rest as) (hlen : as.length ≤ 100000) (z : P c (fun b => good b ∧ k (mk b)) x [o, T (Tl.mk as)]) (cc : ∀ v H' (a : α), Ext W H1 H' → den W H' v a → k a → Q v H') : tMakeSK (W.B.cl c) (spIn W.B P) E v0 rest H1 σ Q := by
  intro xx dx nx ndx nex
  have e3 : Ext W H1 (upd (upd H1 dx (.own xx)) xx (.ins (W.B.cl c) dx [])) := ⟨fun a u _ q => by rw [upd_ne (ne_of_none q nx), upd_ne (ne_of_none q ndx)]; exact q, W.st _ _ _ (W.st _ _ _ G.ok (fresh_mu G.ok ndx)) (fresh_mu G.ok nx)⟩
  refine ⟨.ref xx, rest, rfl, Nat.le_trans (by rw [dr.length]; exact hlen) (by decide : 100000 ≤ sizeLine), fun p hp => ?_⟩
  have e4 := Ext.new (o := .tup rest) e3.ok hp
  have hpx : p ≠ xx := fun e => by rw [e, upd_same] at hp; cases hp
  have kk : Kp (W.toWc.plus xx) H1 (upd (upd (upd H1 dx (.own xx)) xx (.ins (W.B.cl c) dx [])) p (.tup rest)) := fun a u m q => (e3.trans e4).keep a u (fun z => m (.inl z)) q
  refine make_run (ws := [v0, V.ref p]) mk good (hx σ H1 G) G.ok hden xx dx nx ndx nex _ e4 ?_ z cc
  refine .cons (t := o) (Ty.mono kk (o.r.grow xx nx d0)) (.cons (t := T (Tl.mk as)) ⟨p, rest, rfl, ⟨fun z => z.elim (fresh_mu e3.ok hp) hpx, upd_same⟩, ?_⟩ .nil)
  exact dr.imp fun _ _ y => Rep.mono kk (Rep.grow xx nx y)
theorem ev_makeVSK {α β γ : Type} {rα : Rep α} {rγ : Rep γ} {fβ : FRep β} {P : PI β} {E : L2.St → XK} {x : Xn → Prop} {k : α → Prop} {c : Cn} {C : Addr} {i : Nat} (mk : β → α) (good : β → Prop) (hB : W.B = B) (hK : W.B.K = K) (hC : B.cl c = C) (hi : Γ[i]? = some (some (T (Cv.mk c)))) (hx : HX W Γ E x)
    (hden : ∀ (W' : Wc) (H : Hp) (p dx : Addr) (fs : List (Str × V)) (b : β), W'.B = B → ¬ W'.mu p → H p = some (.ins (B.cl c) dx fs) → FRep.fd W' H fs b → good b → den W' H (.ref p) (mk b))
    (h : EvK W te Γ fun as : List γ => EvO W tk Γ fun o => as.length ≤ 100000 ∧ P c (fun b => good b ∧ k (mk b)) x [o, T (Tl.mk as)]) : EvK W (tMakeVSK i C (spIn B P) E K te tk) Γ k := by
  subst hB
  subst hC
  subst hK
  refine fun σ H Q G cc => ?_
  obtain ⟨v, h1, h2⟩ := G.at_ i _ hi
  refine ⟨v, h1, h2, h σ H _ G fun y H1 as e1 dy h3 => h3 σ H1 _ (G.ext e1) fun v0 H2 o e2 d0 ⟨hlen, z⟩ => ?_⟩
  obtain ⟨a, vs, hv, hp, hd⟩ := Rep.mono (α := List γ) e2.keep dy
  exact ⟨a, vs, hv, .inr hp.sq, makeSK_run mk good hx ((G.ext e1).ext e2) hden d0 hd hlen z fun v H' b e d q => cc v H' b ((e1.trans e2).trans e) d q⟩
end
structure Em where
instance : Rep Em := ⟨fun W _ v _ => ∃ p, v = .ref p ∧ ∀ H, SqT W.B.K H p [], fun _ h => h, fun _ _ h => h, fun _ h => h⟩
section
variable {W : Wd} {Γ : Gam} {te td ty tx ta tb : TE} {K : PySem.W.Frag}
theorem ei_em {α : Type} {rα : Rep α} {k : List α → Prop} (hK : W.B.K = K) (h : EvK W te Γ fun _ : Em => k []) : EvI W (iTup K te) Γ k := by
  subst hK
  refine fun σ H R G c => h σ H _ G fun v H1 as e1 ⟨p, hv, hp⟩ z => ⟨p, hv, ⟨[], hp H1⟩, c _ H1 [] e1 ⟨?_, ?_, ?_⟩ z⟩
  · intro i H' kp hi
    exact absurd hi (Nat.not_lt_zero _)
  · intro H' kp
    exact ⟨[], hp H', Nat.le_refl _⟩
  · rintro i H' x H'' kp _ hi _
    exact absurd hi (Nat.not_lt_zero _)
theorem ev_dget2 {β : Type} {rβ : Rep β} {k : β → Prop} (h : EvK W td Γ fun d : Dc β => EvK W ty Γ fun s : Str => EvK W tx Γ fun b0 : β => k ((getDc d.l s).getD b0)) : EvK W (tDGet2 td ty tx) Γ k := fun σ H Q E c =>
  h σ H _ E fun x H1 d e1 dx h2 => by
    obtain ⟨p0, kvs0, hv0, hp0, hd0⟩ := id dx
    refine ⟨p0, hv0, ?_, ?_⟩
    · exact .inl ⟨kvs0, .inl hp0.2⟩
    refine h2 σ H1 _ (E.ext e1) fun y H2 s e2 dy h3 => h3 σ H2 _ ((E.ext e1).ext e2) fun z H3 b0 e3 dz q => ?_
    obtain ⟨p, o, hv, hg, ho⟩ := dget_ex s (Rep.mono (α := Dc β) (e2.trans e3).keep dx)
    have dy : y = .str s := dy
    subst dy
    rw [hv0] at hv
    cases hv
    refine ⟨o, hg, ?_⟩
    rcases ho with ⟨e4, e5⟩ | ⟨u, b, e4, e5, e6⟩
    · rw [e5] at q
      rw [e4]
      exact c z H3 b0 ((e1.trans e2).trans e3) dz q
    · rw [e5] at q
      rw [e4]
      exact c u H3 b ((e1.trans e2).trans e3) e6 q
theorem ev_inST {k : Bool → Prop} (hK : W.B.K = K) (h : EvK W ta Γ fun x : Str => EvK W tb Γ fun as : Tl Str => k (decide (x ∈ as.xs))) : EvK W (tOp (rIn K false) ta tb) Γ k := by
  subst hK
  refine ev_two (h.imp fun x hx => hx.imp fun as z v u H Q o dx ⟨p, vs, hu, hp, hd⟩ c => ?_)
  have dx' : v = V.str x := dx
  subst dx' hu
  have e := Dl.strs hd
  refine ⟨p, vs, rfl, .inr hp.sq, rfl, by rw [e]; exact flat_strs as.xs, c _ H _ (Ext.refl o) ?_ z⟩
  show V.bl (inV (V.str x) vs) = _
  rw [e, inV_strs]
end
structure DefD (K : PySem.W.Frag) (name qual : Str) (st : Stmt) (ps : List Str) (dv : V) (f : Addr) : Prop where
  ex : ∃ fd, FunD K name qual (defArgs st) (defBody st) (defScope st) [dv] [] f fd ∧ Binds K fd ps [] ∧ ∃ ds, Vals [dv] ds ∧ Binds K fd ps ds
def spDf (dv : V) (sp : Sp) : Sp := fun vs H Q E => sp (vs ++ [dv]) H Q E
theorem fnR_ofD {CX : CXT} {P : Program} {w : World} {K : PySem.W.Frag} {mg : Str → Option Value} {base : Heap} {st : Stmt} {N ps : List Str} {k : Nat} {sp : Sp} {dv : V} {f : Addr} {name qual : Str} (D : DefD K name qual st ps dv f) (S : FnScope N ps (defScope st)) (len : ∀ vs H Q E, sp vs H Q E → vs.length = ps.length)
    (hbody : ∀ (cdv : Value) (A : Around) (outer : List Env) (s : Shared) (H : Hp) (vs : List V) (Q : VK) (E : XK), Room k (A.deeper (envOfC qual (defScope st) s.heap.objs.size f cdv)) → sp vs H Q E →
      ∃ t, PSs (cxOf CX P w K mg base N qual (defScope st) f cdv A outer s H E) (defBody st) t ∧ t { nx := fun _ H' => Q .non H', rt := Q } (L2.start N vs) H) : FnR P w K mg base CX (k + 1) f sp ∧ FnR P w K mg base CX (k + 1) f (spDf dv sp) := by
  obtain ⟨fd, F, b0, ds, rd, b1⟩ := D.ex
  have ok := F.ok (CX := CX) (P := P) (w := w) (mg := mg) (base := base) S len hbody
  exact ⟨(ok.raw b0 .nil).imp fun vs H Q E h => by rw [List.append_nil]; exact h, ok.raw b1 rd⟩
end G
namespace G
open PySem PySem.Spec PyProof.Rows L2 StX
theorem defD_mk {K : PySem.W.Frag} {name qual : Str} {st : Stmt} {ps : List Str} {f T0 D : Addr} {oc : Value} {od : Option Addr} {kV doc pm : Value} {an : Option Addr} {cdv ct : Value} {osl : Array (Option Value)} {oT : Option Addr} {nT : Nat} {sT : Array (Option Value)}
    (l : K.lookup f = some ⟨oc, od, .func (PySem.W.fnOf name qual (defArgs st) (defBody st) (defScope st) (.ref T0) kV doc pm an cdv ct), osl⟩) (c : PySem.W.codeIn K cdv qual = true) (kp : PySem.W.keepIn K (.ref f) = true) (lT : K.lookup T0 = some ⟨.type "tuple", oT, .seq #[.ref D] nT, sT⟩)
    (h0 : ∀ (T : Addr) (kV doc pm : Value) (an : Option Addr) (cdv ct : Value) (us its : List Value), us.length = ps.length → its.length = 1 →
      ∃ k, bindArgs (PySem.W.fnOf name qual (defArgs st) (defBody st) (defScope st) (.ref T) kV doc pm an cdv ct) ⟨us, []⟩ = seqItems? (.ref T) >>= k ∧ k (some its.toArray) = pure (ps.zip (us ++ its.drop 1)))
    (h1 : ∀ (T : Addr) (kV doc pm : Value) (an : Option Addr) (cdv ct : Value) (us its : List Value), us.length = ps.length - 1 → its.length = 1 →
      ∃ k, bindArgs (PySem.W.fnOf name qual (defArgs st) (defBody st) (defScope st) (.ref T) kV doc pm an cdv ct) ⟨us, []⟩ = seqItems? (.ref T) >>= k ∧ k (some its.toArray) = pure (ps.zip (us ++ its.drop 0)))
    (hp : 0 < ps.length := by decide) : DefD K name qual st ps (V.ref D) f := by
  have F : FunD K name qual (defArgs st) (defBody st) (defScope st) [V.ref D] [] f _ := ⟨⟨oc, od, _, kV, doc, pm, an, cdv, ct, osl, rfl, l, c, .inr ⟨by simp, T0, _, [.ref D], nT, rfl, lT, rfl, .cons rfl .nil⟩, .inl rfl⟩, kp⟩
  obtain ⟨ds0, r0, b0⟩ := F.binds1 (ps := ps) ps.length 1 (by simp) (by simp) h0
  obtain ⟨ds1, r1, b1⟩ := F.binds1 (ps := ps) (ps.length - 1) 0 (by simp) (by simp; omega) h1
  cases r0
  exact ⟨_, F, b0, ds1, r1, b1⟩
end G
set_option Elab.async false
set_option linter.all false
set_option maxRecDepth 100000
set_option maxHeartbeats 2000000
namespace G
open PySem PySem.Spec PyProof.Rows L2 StX
abbrev Grp := Tl Str
def grpD (gs : List Grp) : List (Str × Grp) := mergeD [] (gs.flatMap fun g => g.xs.map fun m => (m, g))
def fltD (ds : List (Str × Grp)) (names : List Str) (nm : Str) : List Str := names.filter fun o => decide (o = nm) || decide (o ∈ ((getDc ds nm).getD ⟨[]⟩).xs)
def keepD (ds : List (Str × Grp)) (names : List Str) (nm : Str) : Bool := decide ((fltD ds names nm).headD nm = nm)
def flD (ds : List (Str × Grp)) (names : List Str) : List (List Str) := (names.filter (keepD ds names)).map (fltD ds names)
def flF (names : List Str) (gs : List Grp) : List (List Str) := flD (grpD gs) names
theorem flD_take {ds : List (Str × Grp)} {names : List Str} {i : Nat} {nm : Str} (h : names[i]? = some nm) :
    ((names.take (i + 1)).filter (keepD ds names)).map (fltD ds names) = ((names.take i).filter (keepD ds names)).map (fltD ds names) ++ (if keepD ds names nm = true then [fltD ds names nm] else []) := by
  rw [List.take_succ, h, List.filter_append, List.map_append]
  congr 1
  cases hk : keepD ds names nm <;> simp [hk]
theorem fltD_head {ds : List (Str × Grp)} {names : List Str} {nm : Str} (h : nm ∈ names) : ∃ a r, fltD ds names nm = a :: r ∧ a ∈ names := by
  have hm : nm ∈ fltD ds names nm := List.mem_filter.mpr ⟨h, by simp⟩
  cases e : fltD ds names nm with
  | nil => rw [e] at hm; cases hm
  | cons a r =>
    have ha : a ∈ fltD ds names nm := by rw [e]; exact List.mem_cons_self
    exact ⟨a, r, rfl, (List.mem_filter.mp ha).1⟩
theorem flF_len (names : List Str) (gs : List Grp) : (flF names gs).length ≤ names.length := by
  unfold flF flD
  rw [List.length_map]
  exact List.length_filter_le _ _
theorem fltD_len (ds : List (Str × Grp)) (names : List Str) (nm : Str) : (fltD ds names nm).length ≤ names.length := List.length_filter_le _ _
/-- the first name of the groups that is unknown (true) or stands twice (false) -/
def badG (names : List Str) (seen : List Str) : List Str → Option (Bool × Str)
  | [] => none
  | w :: r => if w ∉ names then some (true, w) else if w ∈ seen then some (false, w) else badG names (seen ++ [w]) r
theorem badG_none {names : List Str} : ∀ {l seen : List Str}, badG names seen l = none ↔ (∀ w ∈ l, w ∈ names ∧ w ∉ seen) ∧ l.Nodup
  | [], seen => by simp [badG]
  | w :: r, seen => by
    unfold badG
    by_cases h1 : w ∈ names
    · rw [if_neg (not_not_intro h1)]
      by_cases h2 : w ∈ seen
      · rw [if_pos h2]
        exact ⟨fun z => (nomatch z), fun z => absurd h2 (z.1 w List.mem_cons_self).2⟩
      · rw [if_neg h2, badG_none (l := r), List.nodup_cons]
        constructor
        · rintro ⟨a, b⟩
          refine ⟨fun u hu => ?_, fun hw => ?_, b⟩
          · rcases List.mem_cons.mp hu with rfl | hu
            · exact ⟨h1, h2⟩
            · exact ⟨(a u hu).1, fun z => (a u hu).2 (List.mem_append_left _ z)⟩
          · exact (a w hw).2 (List.mem_append_right _ (List.mem_singleton.mpr rfl))
        · rintro ⟨a, b, c⟩
          refine ⟨fun u hu => ⟨(a u (List.mem_cons_of_mem _ hu)).1, fun z => ?_⟩, c⟩
          rcases List.mem_append.mp z with z | z
          · exact (a u (List.mem_cons_of_mem _ hu)).2 z
          · rw [List.mem_singleton.mp z] at hu
            exact b hu
    · rw [if_pos h1]
      exact ⟨fun z => (nomatch z), fun z => absurd (z.1 w List.mem_cons_self).1 h1⟩
theorem badG_step {names seen l : List Str} {i : Nat} {w : Str} (h : l[i]? = some w) (hs : seen = l.take i) (rest : List Str) (pre : List Str) : badG names (pre ++ seen) (l.drop i ++ rest) = if w ∉ names then some (true, w) else if w ∈ pre ++ seen then some (false, w) else badG names (pre ++ l.take (i + 1)) (l.drop (i + 1) ++ rest) := by
  have hi := (List.getElem?_eq_some_iff.mp h).1
  have he := (List.getElem?_eq_some_iff.mp h).2
  rw [List.drop_eq_getElem_cons hi, he]
  show (if w ∉ names then some (true, w) else if w ∈ pre ++ seen then some (false, w) else badG names (pre ++ seen ++ [w]) (l.drop (i + 1) ++ rest)) = _
  rw [hs, List.take_succ, h, List.append_assoc]
  rfl
/-- the fields of a whole rack as they are set -/
abbrev RkB := Fd (List (List Str)) × Fd (List Gau) × Unit
def rkB (gs : List Gau) (fl : List (List Str)) : RkB := (⟨"_faults", fl⟩, ⟨"_gauges", gs⟩, ())
theorem rk_hden {B : Bs} (hT : RackT B) (W' : Wc) (H : Hp) (p dx : Addr) (fs : List (Str × V)) (b : RkB) (hB : W'.B = B) (m : ¬ W'.mu p) (hH : H p = some (.ins (B.cl .Rack) dx fs)) (hf : FRep.fd W' H fs b) (hb : b = rkB b.2.1.a b.1.a) : den W' H (.ref p) (Rk.mk b.2.1.a b.1.a) := by
  subst hB
  rw [hb] at hf
  obtain ⟨v, r, h1, h2, v2, r2, h3, h4, h5⟩ := hf
  have h5 : r2 = [] := h5
  subst h5
  have h3 : r = [(("_gauges" : Str), v2)] := h3
  subst h3
  have h1 : fs = [(("_gauges" : Str), v2), (("_faults" : Str), v)] := h1
  subst h1
  exact ⟨p, dx, v2, v, rfl, m, hH, h4, h2, hT⟩
end G
namespace G
open PySem PySem.Spec PyProof.Rows L2 StX
/-- () -/
theorem ev_tupT0 {α : Type} {rα : Rep α} {W : Wd} {Γ : Gam} {k : Tl α → Prop} (q : k ⟨[]⟩) : EvK W (tTup tNil) Γ k := fun σ H Q G c => by
  show _ ∧ ∀ p, H p = none → _
  refine ⟨by decide, fun p hp => ?_⟩
  exact c (.ref p) _ ⟨[]⟩ (Ext.new G.ok hp) ⟨p, [], rfl, ⟨fresh_mu G.ok hp, upd_same⟩, .nil⟩ q
end G
namespace G
open PySem PySem.Spec PyProof.Rows L2 StX
/-- a name that may stand in an error's text -/
structure NmOk (w : Str) : Prop where
  ok : PyData.strOk w = true
  rep : (reprText w).length ≤ 3000
  len : w.length ≤ 3000
/-- a field that holds an own list, once that list rests -/
theorem rest_fd {α β : Type} {rα : Rep α} {fβ : FRep β} {f : Str} {p q dx : Addr} {c : Cn} {fs : List (Str × V)} {vs : List V} {as : List α} {b : β} (W : Wc) (H : Hp) (v : V) (nm : ¬ W.mu q) (hq : H q = some (.lst vs))
    (h : Ty.den (W.plus q) H v (T (Oi.mk p c dx fs ((⟨f, ⟨q, vs, as⟩⟩, b) : Fd (Ol α) × β)))) : Ty.den W H v (T (Oi.mk p c dx fs ((⟨f, as⟩, b) : Fd (List α) × β))) := by
  obtain ⟨hv, w, r, h1, ⟨h2, h3⟩, h4⟩ := h
  have h2 : w = .ref q := h2
  exact ⟨hv, w, r, h1, ⟨q, vs, h2, ⟨nm, hq⟩, h3.imp fun _ _ d => Rep.shrink q d⟩, FRep.shrink q h4⟩
/-- a rack half made, its list at rest -/
theorem rp_hden {B : Bs} (hT : RackT B) {p dx : Addr} {fs : List (Str × V)} {gs : List Gau} (W : Wc) (H : Hp) (hB : W.B = B) (m : ¬ W.mu p) (hH : H p = some (.ins (B.cl .Rack) dx fs))
    (hf : FRep.fd W H fs ((⟨"_gauges", gs⟩, ()) : Fd (List Gau) × Unit)) : den W H (.ref p) (Rp.mk gs) := by
  subst hB
  obtain ⟨v, r, h1, h2, h4⟩ := hf
  have h4 : r = [] := h4
  subst h4
  have h1 : fs = [(("_gauges" : Str), v)] := h1
  subst h1
  exact ⟨p, dx, v, rfl, m, hH, h2, hT⟩
theorem ea_varO {W : Wd} {Γ : Gam} {tr : TA} {i : Nat} {o : Ty} {k : List Ty → Prop} (h : Γ[i]? = some (some o)) (q : EvA W tr Γ fun ts => k (o :: ts)) : EvA W (tCons (tVar i) tr) Γ k := fun σ H Q G c => by
  obtain ⟨v, h1, h2⟩ := G.at_ i _ h
  refine ⟨v, h1, q σ H _ G fun vs H' ts e d z => c (v :: vs) H' (o :: ts) e (.cons (t := o) (Ty.mono e.keep h2) d) z⟩
end G
set_option Elab.async false
set_option linter.all false
set_option maxRecDepth 100000
set_option maxHeartbeats 2000000
namespace G
open PySem PySem.Spec PyProof.Rows L2 StX
/-- alike data that may be sorted -/
class Srt (α : Type) [Rep α] extends Dat α where
  alk : ∀ a b : α, PySem.W.alike (toD a) (toD b) = true
  tup : (∀ a : α, ∃ x r, toD a = .tuple (x :: r)) ∨ ∀ a : α, toD a ≠ .none ∧ ∀ xs, toD a ≠ .tuple xs
end G
namespace G
open PySem PySem.Spec PyProof.Rows L2 StX
/-- data of one shape -/
class Alk (α : Type) [Rep α] [Dat α] : Prop where
  alk : ∀ a b : α, PySem.W.alike (Dat.toD a) (Dat.toD b) = true
instance : Alk Int := ⟨fun a b => by show PySem.W.alike (.int a) (.int b) = true; simp [PySem.W.alike]⟩
instance : Alk Str := ⟨fun a b => by show PySem.W.alike (.str a) (.str b) = true; simp [PySem.W.alike]⟩
theorem alk_all {α : Type} [Rep α] [Dat α] [Alk α] : ∀ as bs : List α, PySem.W.alikeAll (as.map Dat.toD) (bs.map Dat.toD) = true
  | [], _ => by simp [PySem.W.alikeAll]
  | _ :: _, [] => by simp [PySem.W.alikeAll]
  | a :: as, b :: bs => by
    rw [List.map_cons, List.map_cons, PySem.W.alikeAll, Alk.alk a b, alk_all as bs]
    rfl
instance {α : Type} [Rep α] [Dat α] [Alk α] : Alk (List α) := ⟨fun as bs => by
  show PySem.W.alike (.list (as.map Dat.toD)) (.list (bs.map Dat.toD)) = true
  rw [PySem.W.alike]
  exact alk_all as bs⟩
instance {α β : Type} [Rep α] [Rep β] [Dat α] [Dat β] [Alk α] [Alk β] : Alk (α × β) := ⟨fun a b => by
  show PySem.W.alike (.tuple [Dat.toD a.1, Dat.toD a.2]) (.tuple [Dat.toD b.1, Dat.toD b.2]) = true
  simp [PySem.W.alike, PySem.W.alikeAll, Alk.alk]⟩
instance : Srt Int := { toDat := inferInstance, alk := fun a b => Alk.alk a b, tup := .inr fun a => ⟨fun e => (by cases e), fun xs e => (by cases e)⟩ }
instance : Srt Str := { toDat := inferInstance, alk := fun a b => Alk.alk a b, tup := .inr fun a => ⟨fun e => (by cases e), fun xs e => (by cases e)⟩ }
instance srtPair {α β : Type} [Rep α] [Rep β] [Dat α] [Dat β] [Alk α] [Alk β] : Srt (α × β) := { toDat := inferInstance, alk := fun a b => Alk.alk a b, tup := .inl fun a => ⟨_, _, rfl⟩ }
end G
set_option Elab.async false
set_option linter.all false
set_option maxRecDepth 100000
set_option maxHeartbeats 2000000
namespace G
open PySem PySem.Spec PyProof.Rows L2 StX
def optD {α : Type} [r : Rep α] (W : Wc) (H : Hp) (v : V) : Option α → Prop
  | some a => den W H v a
  | none => v = .non
instance instRepOpt {α : Type} [Rep α] : Rep (Option α) where
  dn := optD
  mono := fun {W H H' v a} e h => by cases a with | none => exact h | some a => exact Rep.mono (a := a) e h
  grow := fun {W H v a} D n h => by cases a with | none => exact h | some a => exact Rep.grow (a := a) D n h
  shrink := fun {W H v a} D h => by cases a with | none => exact h | some a => exact Rep.shrink (a := a) D h
instance {α : Type} [Rep α] [Flat α] : Flat (Option α) := ⟨fun {W W' H H' v a} h => by cases a with | none => exact h | some a => exact Flat.at_ (a := a) h⟩
/-- data that are unlike None -/
class NeNon (α : Type) [Rep α] [Dat α] : Prop where
  ne : ∀ a : α, PyData.eqv .none (Dat.toD a) = false ∧ PyData.eqv (Dat.toD a) .none = false
instance : NeNon Int := ⟨fun a => ⟨rfl, rfl⟩⟩
instance : NeNon Str := ⟨fun a => ⟨rfl, rfl⟩⟩
instance {α : Type} [Rep α] [Dat α] [NeNon α] : Dat (Option α) where
  toD := fun o => match o with | some a => Dat.toD a | none => .none
  dp := fun {W H v a} h => by
    cases a with
    | none => cases (show v = .non from h); exact .non
    | some a => exact Dat.dp (a := a) h
  dep := Dat.dep α
  ddep := fun a => by cases a with | none => exact Nat.zero_le _ | some a => exact Dat.ddep a
  inj := fun a b => by
    cases a with
    | none => cases b with
      | none => exact ⟨fun _ => rfl, fun _ => rfl⟩
      | some b => exact ⟨fun h => absurd ((NeNon.ne b).1.symm.trans h) Bool.false_ne_true, fun h => (by cases h)⟩
    | some a => cases b with
      | none => exact ⟨fun h => absurd ((NeNon.ne a).2.symm.trans h) Bool.false_ne_true, fun h => (by cases h)⟩
      | some b => exact (Dat.inj a b).trans ⟨fun h => by rw [h], fun h => Option.some.inj h⟩
  good := fun a => ∀ b, a = some b → Dat.good b
  gshp := fun a h => by cases a with | none => rfl | some a => exact Dat.gshp a (h a rfl)
end G
set_option Elab.async false
set_option linter.all false
set_option maxRecDepth 100000
set_option maxHeartbeats 2000000
namespace G
open PySem PySem.Spec PyProof.Rows L2 StX
abbrev flatG (gs : List Grp) : List Str := gs.flatMap Tl.xs
structure GrOk (ws : List Str) (gs : List Grp) : Prop where
  nd : (flatG gs).Nodup
  sub : ∀ w ∈ flatG gs, w ∈ ws
theorem getDc_mem {β : Type} {l : List (Str × β)} (h : (l.map (·.1)).Nodup) {k : Str} {b : β} (hm : (k, b) ∈ l) : getDc l k = some b := by
  unfold getDc
  induction l with
  | nil => cases hm
  | cons e r ih =>
    rw [List.map_cons, List.nodup_cons] at h
    rcases List.mem_cons.mp hm with e1 | hm
    · subst e1
      rw [List.find?_cons_of_pos (by simp)]
      rfl
    · have hne : ¬ e.1 = k := fun q => h.1 (List.mem_map.mpr ⟨_, hm, q.symm⟩)
      rw [List.find?_cons_of_neg (by simpa using hne)]
      exact ih h.2 hm
theorem flF_mem {ws : List Str} {gs : List Grp} {f : List Str} (h : f ∈ flF ws gs) : f ≠ [] ∧ f.length ≤ ws.length ∧ (∀ n ∈ f, n ∈ ws) := by
  unfold flF flD at h
  obtain ⟨w, hw, rfl⟩ := List.mem_map.mp h
  have hws := (List.mem_filter.mp hw).1
  obtain ⟨a, r, hc, _⟩ := fltD_head (ds := grpD gs) hws
  exact ⟨by rw [hc]; simp, fltD_len _ _ _, fun n hn => (List.mem_filter.mp hn).1⟩
theorem badG_ok {ws : List Str} {gs : List Grp} (h : GrOk ws gs) : badG ws [] (flatG gs) = none := badG_none.mpr ⟨fun w hw => ⟨h.sub w hw, List.not_mem_nil⟩, h.nd⟩
end G
set_option Elab.async false
set_option linter.all false
set_option maxRecDepth 100000
set_option maxHeartbeats 2000000
namespace G
open PySem PySem.Spec PyProof.Rows L2 StX
/-- a rack in order -/
structure RkOk (gs : List Gau) (fl : List (List Str)) : Prop where
  len : gs.length ≤ 100
  nd : (gs.map Gau.nm).Nodup
  nm : ∀ g ∈ gs, NmOk g.nm
  go : ∀ g ∈ gs, GauOk g
  fln : fl.length ≤ 100
  ff : ∀ f ∈ fl, f ≠ [] ∧ f.length ≤ 100 ∧ ∀ n ∈ f, n ∈ gs.map Gau.nm
theorem rkok_of {gs : List Gau} {grs : List Grp} (h1 : gs.length ≤ 100) (h2 : (gs.map Gau.nm).Nodup) (h3 : ∀ g ∈ gs, NmOk g.nm) (h4 : ∀ g ∈ gs, GauOk g) : RkOk gs (flF (gs.map Gau.nm) grs) :=
  ⟨h1, h2, h3, h4, Nat.le_trans (flF_len _ _) (by rw [List.length_map]; exact h1), fun f hf => by
    obtain ⟨a, b, c⟩ := flF_mem hf
    exact ⟨a, Nat.le_trans b (by rw [List.length_map]; exact h1), c⟩⟩
end G
namespace G
end G
namespace G
open PySem PySem.Spec PyProof.Rows L2 StX
end G
namespace G
open PySem PySem.Spec PyProof.Rows L2 StX
theorem good_nm {w : Str} (h : GoodW w) : NmOk w := ⟨goodW_ok h, (repr_good h).1, (repr_good h).2⟩
theorem nodup_len {α : Type} [DecidableEq α] : ∀ {l m : List α}, l.Nodup → (∀ x ∈ l, x ∈ m) → l.length ≤ m.length
  | [], _, _, _ => Nat.zero_le _
  | a :: r, m, nd, h => by
    have ha := h a List.mem_cons_self
    obtain ⟨h1, h2⟩ := List.nodup_cons.mp nd
    have h3 : r.length ≤ (m.erase a).length := nodup_len h2 fun x hx => (List.mem_erase_of_ne (fun e => h1 (by rw [← e]; exact hx))).mpr (h x (List.mem_cons_of_mem _ hx))
    have h4 := List.length_erase_of_mem ha
    have h5 := List.length_pos_of_mem ha
    rw [List.length_cons]
    omega
theorem grok_len {ws : List Str} {gs : List Grp} (h : GrOk ws gs) (hl : ws.length ≤ 100) : (flatG gs).length ≤ 1000 := by
  have := nodup_len h.nd fun w hw => h.sub w hw
  omega
end G
set_option Elab.async false
set_option linter.all false
set_option maxRecDepth 100000
set_option maxHeartbeats 2000000
namespace G
open PySem PySem.Spec PyProof.Rows L2 StX
/-- a promise that may speak of the heap's size at the call -/
def FnRN (P : Program) (w : World) (K : PySem.W.Frag) (mg : Str → Option Value) (base : Heap) (CX : CXT) (k : Nat) (f : Addr) (sp : Nat → Sp) : Prop :=
  ∀ (A : Around) (outer : List Env) (s : Shared) (H : Hp) (us : List Value) (vs : List V) (Q : VK) (E : XK), Room k A → Env0 P w K mg base A outer s H → Vals vs us → sp s.heap.objs.size vs H Q E →
    codeAny (model P w) A (.call (.ref f) ⟨us, []⟩) (CR CX outer P w H s Q E) s
section
variable {P : Program} {w : World} {K : PySem.W.Frag} {mg : Str → Option Value} {base : Heap}
theorem FnRN.mono {CX : CXT} {j k : Nat} {f : Addr} {sp : Nat → Sp} (F : FnRN P w K mg base CX j f sp) (h : j ≤ k) : FnRN P w K mg base CX k f sp := fun A outer s H us vs Q E hr => F A outer s H us vs Q E (hr.mono h)
end
end G
set_option Elab.async false
set_option linter.all false
set_option maxRecDepth 100000
set_option maxHeartbeats 2000000
namespace G
open PySem PySem.Spec PyProof.Rows L2 StX
def toS (g : Gau) (r : Int) : Stc := ⟨r - sbF g, r + saF g⟩
def tdF (gs : List Gau) (ds : List (Str × Int)) (w : Str) : Stc := ((gs.find? fun g => decide (g.nm = w)).map fun g => toS g (rdF ds w)).getD ⟨0, 0⟩
theorem find_nm {gs : List Gau} (nd : (gs.map Gau.nm).Nodup) {g : Gau} (h : g ∈ gs) : (gs.find? fun e => decide (e.nm = g.nm)) = some g := by
  induction gs with
  | nil => cases h
  | cons e r ih =>
    rw [List.map_cons, List.nodup_cons] at nd
    rcases List.mem_cons.mp h with rfl | hm
    · rw [List.find?_cons_of_pos (by simp)]
    · have hne : ¬ e.nm = g.nm := fun q => nd.1 (List.mem_map.mpr ⟨_, hm, q.symm⟩)
      rw [List.find?_cons_of_neg (by simpa using hne)]
      exact ih nd.2 hm
theorem tdF_at {gs : List Gau} {ds : List (Str × Int)} (nd : (gs.map Gau.nm).Nodup) {g : Gau} (h : g ∈ gs) : tdF gs ds g.nm = toS g (rdF ds g.nm) := by
  unfold tdF
  rw [find_nm nd h]
  rfl
/-- the told stretches of a fault -/
def tfF (gs : List Gau) (ds : List (Str × Int)) (f : List Str) : List Stc := (f.filter fun w => (getDc ds w).isSome).map (tdF gs ds)
/-- the present faults -/
def prF (gs : List Gau) (fl : List (List Str)) (ds : List (Str × Int)) : List (List Stc) := (fl.map (tfF gs ds)).filter fun l => !l.isEmpty
def loS : Stc → List Stc → Int
  | s, [] => s.lo
  | s, t :: r => max s.lo (loS t r)
def hiS : Stc → List Stc → Int
  | s, [] => s.hi
  | s, t :: r => min s.hi (hiS t r)
theorem loS_le {x : Int} : ∀ {s : Stc} {r : List Stc}, loS s r ≤ x ↔ ∀ t ∈ s :: r, t.lo ≤ x
  | s, [] => by simp [loS]
  | s, t :: r => by
    have ih := loS_le (x := x) (s := t) (r := r)
    rw [loS, Int.max_le, ih]
    simp
theorem le_hiS {x : Int} : ∀ {s : Stc} {r : List Stc}, x ≤ hiS s r ↔ ∀ t ∈ s :: r, x ≤ t.hi
  | s, [] => by simp [hiS]
  | s, t :: r => by
    have ih := le_hiS (x := x) (s := t) (r := r)
    rw [hiS, Int.le_min, ih]
    simp
/-- what all stretches of a list have in common -/
def capP : List Stc → List (Int × Int)
  | [] => []
  | s :: r => if loS s r ≤ hiS s r then [(loS s r, hiS s r)] else []
theorem memP_cap {ss : List Stc} (h0 : ss ≠ []) {x : Int} : memP x (capP ss) ↔ ∀ s ∈ ss, inS x s = true := by
  cases ss with
  | nil => exact absurd rfl h0
  | cons s r =>
    have e : (∀ t ∈ s :: r, inS x t = true) ↔ loS s r ≤ x ∧ x ≤ hiS s r := by
      rw [loS_le, le_hiS]
      exact ⟨fun h => ⟨fun t ht => (inS_iff.mp (h t ht)).1, fun t ht => (inS_iff.mp (h t ht)).2⟩, fun ⟨h1, h2⟩ t ht => inS_iff.mpr ⟨h1 t ht, h2 t ht⟩⟩
    rw [e]
    rw [capP]
    by_cases hle : loS s r ≤ hiS s r
    · rw [if_pos hle]
      exact ⟨fun ⟨p, hp, h1, h2⟩ => by rw [List.mem_singleton.mp hp] at h1 h2; exact ⟨h1, h2⟩, fun ⟨h1, h2⟩ => ⟨_, List.mem_singleton.mpr rfl, h1, h2⟩⟩
    · rw [if_neg hle]
      exact ⟨fun ⟨p, hp, _⟩ => (nomatch hp), fun ⟨h1, h2⟩ => absurd (Int.le_trans h1 h2) hle⟩
theorem cap_len (ss : List Stc) : (capP ss).length ≤ 1 := by
  cases ss with
  | nil => exact Nat.zero_le _
  | cons s r =>
    rw [capP]
    split <;> simp
/-- the pieces of what fits each present fault -/
def ptF (pr : List (List Stc)) : List Stc := pr.flatMap fun l => (capP l).map mkStc
theorem pr_ne {gs : List Gau} {fl : List (List Str)} {ds : List (Str × Int)} {l : List Stc} (h : l ∈ prF gs fl ds) : l ≠ [] := by
  have := (List.mem_filter.mp h).2
  intro e
  rw [e] at this
  exact absurd this (by decide)
/-- the number of present faults that fit a level -/
theorem dep_pt {pr : List (List Stc)} (h : ∀ l ∈ pr, l ≠ []) (x : Int) : depS (ptF pr) x = (pr.filter fun l => l.all (inS x)).length := by
  unfold ptF
  induction pr with
  | nil => rfl
  | cons l r ih =>
    have ih := ih fun m hm => h m (List.mem_cons_of_mem _ hm)
    have h0 := h l List.mem_cons_self
    rw [List.flatMap_cons]
    unfold depS at ih ⊢
    rw [List.filter_append, List.length_append]
    have e1 : (((capP l).map mkStc).filter (inS x)).length = if l.all (inS x) then 1 else 0 := by
      have hm := memP_cap h0 (x := x)
      have hc := cap_len l
      by_cases ha : l.all (inS x) = true
      · rw [if_pos ha]
        obtain ⟨p, hp, h1, h2⟩ := hm.mpr (List.all_eq_true.mp ha)
        cases e : capP l with
        | nil => rw [e] at hp; cases hp
        | cons q t =>
          rw [e] at hc hp
          have : t = [] := by cases t with
            | nil => rfl
            | cons u v => simp at hc
          subst this
          have := List.mem_singleton.mp hp
          subst this
          have hi : inS x (mkStc p) = true := inS_iff.mpr ⟨h1, h2⟩
          show (List.filter (inS x) [mkStc p]).length = 1
          rw [List.filter_cons_of_pos hi]
          rfl
      · rw [if_neg ha]
        have hn : ∀ p ∈ capP l, ¬ (p.1 ≤ x ∧ x ≤ p.2) := fun p hp hh => ha (List.all_eq_true.mpr (hm.mp ⟨p, hp, hh.1, hh.2⟩))
        rw [List.filter_eq_nil_iff.mpr fun s hs hh => by
          obtain ⟨p, hp, rfl⟩ := List.mem_map.mp hs
          exact hn p hp (inS_iff.mp hh)]
        rfl
    rw [e1]
    by_cases ha : l.all (inS x) = true
    · rw [if_pos ha, List.filter_cons_of_pos (p := fun l : List Stc => l.all (inS x)) ha, List.length_cons]
      omega
    · rw [if_neg ha, List.filter_cons_of_neg (p := fun l : List Stc => l.all (inS x)) ha]
      omega
/-- the possible levels -/
def PosOk (gs : List Gau) (fl : List (List Str)) (ds : List (Str × Int)) (l : Int) (L : List (Int × Int)) : Prop := ShOk (ptF (prF gs fl ds)) ((prF gs fl ds).length - l) L
theorem Dk.keys {β : Type} {f : V → β → Prop} {W : Wc} {H : Hp} : ∀ {kvs : List (Key × V)} {l : List (Str × β)}, Dk f kvs l → Dl (den W H) (kvs.map fun kv => kV kv.1) (l.map (·.1))
  | _, _, .nil => .nil
  | _, _, .cons (k := a) _ r => .cons (show den W H (V.str a) a from rfl) r.keys
end G
namespace G
end G
set_option Elab.async false
set_option linter.all false
set_option maxRecDepth 100000
set_option maxHeartbeats 2000000
namespace G
open PySem PySem.Spec PyProof.Rows L2 StX
theorem filt_split {α : Type} (p : α → Bool) : ∀ l : List α, (l.filter p).length + (l.filter fun a => !p a).length = l.length
  | [] => rfl
  | a :: l => by
    have ih := filt_split p l
    rw [List.filter_cons, List.filter_cons]
    cases hp : p a <;> simp_all <;> omega
end G
namespace G
open PySem PySem.Spec PyProof.Rows L2 StX
end G
set_option Elab.async false
set_option linter.all false
set_option maxRecDepth 100000
set_option maxHeartbeats 2000000
namespace G
open PySem PySem.Spec PyProof.Rows L2 StX
class NoDc (α : Type) [Rep α] : Prop where
  at_ : ∀ {W : Wc} {H : Hp} {v : V} {a : α} {q : Addr} {kvs : List (Key × V)}, H q = some (.dK kvs) → den W H v a → den (W.plus q) H v a
instance : NoDc Int := ⟨fun _ h => h⟩
instance : NoDc Bool := ⟨fun _ h => h⟩
instance : NoDc Str := ⟨fun _ h => h⟩
instance : NoDc Unit := ⟨fun _ h => h⟩
theorem lq_nd {W : Wc} {H : Hp} {p q : Addr} {vs : List V} {kvs : List (Key × V)} (h : H q = some (.dK kvs)) (s : Lq W H p vs) : Lq (W.plus q) H p vs :=
  ⟨fun z => z.elim s.1 fun z => (by have := s.2; rw [z, h] at this; cases this), s.2⟩
theorem tq_nd {W : Wc} {H : Hp} {p q : Addr} {vs : List V} {kvs : List (Key × V)} (h : H q = some (.dK kvs)) (s : Tq W H p vs) : Tq (W.plus q) H p vs :=
  ⟨fun z => z.elim s.1 fun z => (by have := s.2; rw [z, h] at this; cases this), s.2⟩
instance {α : Type} [Rep α] [NoDc α] : NoDc (List α) := ⟨fun h ⟨p, vs, hv, s, d⟩ => ⟨p, vs, hv, lq_nd h s, d.imp fun _ _ x => NoDc.at_ h x⟩⟩
instance {α β : Type} [Rep α] [Rep β] [NoDc α] [NoDc β] : NoDc (α × β) := ⟨fun h ⟨p, x, y, hv, s, d1, d2⟩ => ⟨p, x, y, hv, tq_nd h s, NoDc.at_ h d1, NoDc.at_ h d2⟩⟩
instance {α β : Type} [Rep α] [Rep β] [NoDc α] [NoDc β] : NoDc (Li2 α β) := ⟨fun h ⟨p, x, y, hv, s, d1, d2⟩ => ⟨p, x, y, hv, lq_nd h s, NoDc.at_ h d1, NoDc.at_ h d2⟩⟩
instance {α β γ : Type} [Rep α] [Rep β] [Rep γ] [NoDc α] [NoDc β] [NoDc γ] : NoDc (Li3 α β γ) := ⟨fun h ⟨p, x, y, z, hv, s, d1, d2, d3⟩ => ⟨p, x, y, z, hv, lq_nd h s, NoDc.at_ h d1, NoDc.at_ h d2, NoDc.at_ h d3⟩⟩
end G
set_option Elab.async false
set_option linter.all false
set_option maxRecDepth 100000
set_option maxHeartbeats 2000000
namespace G
open PySem PySem.Spec PyProof.Rows L2 StX
theorem Dk.at {β : Type} {f : V → β → Prop} : ∀ {kvs : List (Key × V)} {l : List (Str × β)}, Dk f kvs l → ∀ {i : Nat} {k : Key} {v : V}, kvs[i]? = some (k, v) → ∃ s b, l[i]? = some (s, b) ∧ k = .inr s ∧ f v b
  | _, _, .nil, i, k, v, h => by simp at h
  | _, _, .cons (k := a) (v := w) (b := b) h r, 0, k, v, e => by
    have e : some ((Sum.inr a : Key), w) = some (k, v) := e
    cases e
    exact ⟨a, b, rfl, rfl, h⟩
  | _, _, .cons h r, i + 1, k, v, e => r.at (i := i) e
end G
set_option Elab.async false
set_option linter.all false
set_option maxRecDepth 100000
set_option maxHeartbeats 2000000
namespace G
open PySem PySem.Spec PyProof.Rows L2 StX
end G
set_option Elab.async false
set_option linter.all false
set_option maxRecDepth 100000
set_option maxHeartbeats 2000000
namespace G
open PySem PySem.Spec PyProof.Rows L2 StX
def outT (x : Int) (p : Int × Int) : Bool := !(decide (p.1 ≤ x) && decide (x ≤ p.2))
def pairsT (td : List (Str × (Int × Int))) (f : List Str) : List (Int × Int) := (f.filter fun w => (getDc td w).isSome).map fun w => (getDc td w).getD (0, 0)
def missT (fl : List (List Str)) (td : List (Str × (Int × Int))) (x : Int) : Int := ((fl.filter fun f => (pairsT td f).any (outT x)).length : Int)
def tpG (gs : List Gau) (e : Str × Int) : Int × Int := ((gs.find? fun g => decide (g.nm = e.1)).map fun g => (e.2 - sbF g, e.2 + saF g)).getD (0, 0)
theorem putDc_fr {β : Type} {l : List (Str × β)} {k : Str} {b : β} (h : k ∉ l.map (·.1)) : putDc l k b = l ++ [(k, b)] := by
  unfold putDc
  rw [if_neg]
  intro q
  obtain ⟨e, he, hk⟩ := List.any_eq_true.mp q
  exact h (List.mem_map.mpr ⟨e, he, of_decide_eq_true hk⟩)
theorem dc_isSome {β : Type} (l : List (Str × β)) (w : Str) : (getDc l w).isSome = decide (w ∈ l.map (·.1)) := by
  unfold getDc
  rw [Option.isSome_map, Bool.eq_iff_iff, List.find?_isSome, decide_eq_true_iff]
  exact ⟨fun ⟨e, he, hk⟩ => List.mem_map.mpr ⟨e, he, of_decide_eq_true hk⟩, fun h => by obtain ⟨e, he, rfl⟩ := List.mem_map.mp h; exact ⟨e, he, decide_eq_true rfl⟩⟩
structure Tw (gs : List Gau) (ws : List Str) (i : Nat) (ds : List (Str × Int)) (td : List (Str × (Int × Int))) : Prop where
  len : ds.length ≤ i
  nd : (ds.map (·.1)).Nodup
  keys : ∀ w ∈ ds.map (·.1), w ∈ ws.take i
  td : td = ds.map fun e => (e.1, tpG gs e)
theorem take_mono {ws : List Str} {i : Nat} {w : Str} (h : w ∈ ws.take i) : w ∈ ws.take (i + 1) := by
  rw [List.take_succ]
  exact List.mem_append_left _ h
theorem Tw.put {gs : List Gau} {ws : List Str} {i : Nat} {ds : List (Str × Int)} {td : List (Str × (Int × Int))} (h : Tw gs ws i ds td) (nw : ws.Nodup) (ng : (gs.map Gau.nm).Nodup) {g : Gau} (hg : g ∈ gs) {w : Str} (hn : g.nm = w) (hw : ws[i]? = some w) (d : Int) :
    Tw gs ws (i + 1) (putDc ds w d) (putDc td w (d - sbF g, d + saF g)) := by
  have hi := (List.getElem?_eq_some_iff.mp hw).1
  have hnk : w ∉ ds.map (·.1) := fun q => by
    have q := h.keys w q
    obtain ⟨j, hj, e⟩ := List.getElem_of_mem q
    rw [List.length_take] at hj
    rw [List.getElem_take] at e
    have e2 := (List.getElem?_eq_some_iff.mp hw).2
    exact List.pairwise_iff_getElem.mp nw j i (by omega) hi (by omega) (e.trans e2.symm)
  have hnt : w ∉ td.map (·.1) := by
    rw [h.td, List.map_map]
    exact hnk
  rw [putDc_fr hnk, putDc_fr hnt]
  refine ⟨by rw [List.length_append]; have := h.len; simp; omega, ?_, fun u hu => ?_, ?_⟩
  · rw [List.map_append]
    refine List.nodup_append.mpr ⟨h.nd, by simp, fun a ha b hb e => ?_⟩
    have hb : b = w := by simpa using hb
    exact hnk (by rw [← hb, ← e]; exact ha)
  · rw [List.map_append] at hu
    rcases List.mem_append.mp hu with hu | hu
    · exact take_mono (h.keys u hu)
    · have hu : u = w := by simpa using hu
      rw [hu, List.take_succ, hw]
      exact List.mem_append_right _ (List.mem_singleton.mpr rfl)
  · rw [h.td, List.map_append]
    congr 1
    show [(w, _)] = [(w, tpG gs (w, d))]
    unfold tpG
    subst hn
    rw [find_nm ng hg]
    rfl
section
variable {gs : List Gau} {fl : List (List Str)} {ws : List Str} {i : Nat} {ds : List (Str × Int)} {td : List (Str × (Int × Int))}
theorem Tw.tkeys (h : Tw gs ws i ds td) : td.map (·.1) = ds.map (·.1) := by rw [h.td, List.map_map]; rfl
theorem Tw.isS (h : Tw gs ws i ds td) (w : Str) : (getDc td w).isSome = (getDc ds w).isSome := by rw [dc_isSome, dc_isSome, h.tkeys]
theorem Tw.get (h : Tw gs ws i ds td) (ng : (gs.map Gau.nm).Nodup) {g : Gau} (hg : g ∈ gs) (hs : (getDc ds g.nm).isSome = true) : getDc td g.nm = some ((tdF gs ds g.nm).lo, (tdF gs ds g.nm).hi) ∧ ((tdF gs ds g.nm).lo, (tdF gs ds g.nm).hi) ∈ td.map (·.2) := by
  rw [dc_isSome] at hs
  obtain ⟨e, he, hk⟩ := List.mem_map.mp (of_decide_eq_true hs)
  have hd := getDc_mem h.nd (k := e.1) (b := e.2) he
  have hr : rdF ds g.nm = e.2 := by unfold rdF; rw [← hk, hd]; rfl
  have ht : (e.1, tpG gs e) ∈ td := by rw [h.td]; exact List.mem_map.mpr ⟨e, he, rfl⟩
  have hp : tpG gs e = ((tdF gs ds g.nm).lo, (tdF gs ds g.nm).hi) := by
    rw [tdF_at ng hg, hr]
    unfold tpG
    rw [show (fun g' : Gau => decide (g'.nm = e.1)) = fun e => decide (e.nm = g.nm) by rw [hk], find_nm ng hg]
    rfl
  rw [hp] at ht
  exact ⟨by rw [← hk]; exact getDc_mem (by rw [h.tkeys]; exact h.nd) ht ▸ (by rw [hk]), List.mem_map.mpr ⟨_, ht, rfl⟩⟩
theorem any_not_all {α : Type} {p q : α → Bool} : ∀ {l : List α}, (∀ a ∈ l, p a = !q a) → l.any p = !l.all q
  | [], _ => rfl
  | a :: r, h => by
    rw [List.any_cons, List.all_cons, h a List.mem_cons_self, any_not_all fun b hb => h b (List.mem_cons_of_mem _ hb), Bool.not_and]
theorem Tw.out (h : Tw gs ws i ds td) (ok : RkOk gs fl) {f : List Str} (hf : f ∈ fl) (x : Int) : (pairsT td f).any (outT x) = !(tfF gs ds f).all (inS x) := by
  unfold pairsT tfF
  rw [List.any_map, List.all_map, show (f.filter fun w => (getDc td w).isSome) = f.filter fun w => (getDc ds w).isSome from List.filter_congr fun w _ => h.isS w]
  refine any_not_all fun w hw => ?_
  obtain ⟨hw1, hw2⟩ := List.mem_filter.mp hw
  obtain ⟨g, hg, rfl⟩ := List.mem_map.mp ((ok.ff f hf).2.2 w hw1)
  show outT x ((getDc td g.nm).getD (0, 0)) = !inS x (tdF gs ds g.nm)
  rw [(h.get ok.nd hg hw2).1]
  rfl
theorem Tw.miss (h : Tw gs ws i ds td) (ok : RkOk gs fl) (x : Int) : missT fl td x = (((prF gs fl ds).filter fun l => !l.all (inS x)).length : Int) := by
  unfold missT prF
  rw [List.filter_filter, List.filter_map, List.length_map]
  congr 2
  refine List.filter_congr fun f hf => ?_
  rw [h.out ok hf x]
  show _ = ((!(tfF gs ds f).all (inS x)) && !(tfF gs ds f).isEmpty)
  cases e : tfF gs ds f with
  | nil => rfl
  | cons a r => simp
theorem Tw.pos (h : Tw gs ws i ds td) (ok : RkOk gs fl) {l : Int} {L : List (Int × Int)} (hL : PosOk gs fl ds l L) (x : Int) : memP x L ↔ missT fl td x ≤ l := by
  rw [hL.2 x, dep_pt fun l hl => pr_ne hl, h.miss ok x]
  have := filt_split (fun l : List Stc => l.all (inS x)) (prF gs fl ds)
  omega
theorem Tw.mem (h : Tw gs ws i ds td) (ok : RkOk gs fl) {l : List Stc} (hl : l ∈ prF gs fl ds) {t : Stc} (ht : t ∈ l) : (t.lo, t.hi) ∈ td.map (·.2) := by
  obtain ⟨f, hf, rfl⟩ := List.mem_map.mp (List.mem_filter.mp hl).1
  obtain ⟨w, hw, rfl⟩ := List.mem_map.mp ht
  obtain ⟨hw1, hw2⟩ := List.mem_filter.mp hw
  obtain ⟨g, hg, rfl⟩ := List.mem_map.mp ((ok.ff f hf).2.2 w hw1)
  exact (h.get ok.nd hg hw2).2
end
end G
set_option Elab.async false
set_option linter.all false
set_option maxRecDepth 100000
set_option maxHeartbeats 2000000
namespace G
open PySem PySem.Spec PyProof.Rows L2 StX
/-- what a value was when the dict was locked -/
structure WasP where
  P : V → Prop
instance : Rep WasP := ⟨fun _ _ v w => w.P v, fun _ h => h, fun _ _ h => h, fun _ h => h⟩
end G
set_option Elab.async false
set_option linter.all false
set_option maxRecDepth 100000
set_option maxHeartbeats 2000000
namespace G
open PySem PySem.Spec PyProof.Rows L2 PySem.W
/-- what the module's names reach in n steps (each step from the newest alone; an object may stand there twice) -/
def refsB (g : Addr → Option Obj) (a : Addr) : List Addr := match g a with
  | some ⟨_, _, .func fd, _⟩ => He.refV fd.code ++ He.refV fd.defaults ++ He.refV fd.kwdefaults ++ fd.closure.map (·.2)
  | some ⟨_, _, .cls cd, _⟩ => [cd.ns]
  | some ⟨_, _, .dict es _, _⟩ => es.toList.flatMap fun e => He.refV e.val
  | some ⟨_, _, .seq its _, _⟩ => its.toList.flatMap He.refV
  | some ⟨.type n, _, .fields vs, _⟩ => if n == "property" || n == "classmethod" || n == "staticmethod" then vs.toList.flatMap He.refV else []
  | _ => []
def fro (g : Addr → Option Obj) : Nat → List Addr → List Addr
  | 0, as => as
  | n + 1, as => as ++ fro g n (as.flatMap (refsB g))
def asB (g : Addr → Option Obj) (n : Nat) : List Addr := fro g n [mainGlobals, cStatics]
abbrev FxV : Type := Option (Str × Str × Arguments × FuncBody × Scope × Addr × List Str × Addr)
def fx (K : Frag) (f : Addr) : FxV := match K.lookup f with
  | some ⟨_, _, .func fd, _⟩ => some (fd.name, fd.qualname, fd.params, fd.body, fd.scope, fd.globals, fd.closure.map (·.1), fd.builtins)
  | _ => none
def fxD (K : Frag) (f : Addr) : Value := match K.lookup f with
  | some ⟨_, _, .func fd, _⟩ => fd.defaults
  | _ => .none
def fxK (K : Frag) (f : Addr) : Value := match K.lookup f with
  | some ⟨_, _, .func fd, _⟩ => fd.kwdefaults
  | _ => .none
def fxC (K : Frag) (f : Addr) : Value := match K.lookup f with
  | some ⟨_, _, .func fd, _⟩ => fd.code
  | _ => .none
def fxX (K : Frag) (f : Addr) : Addr := match K.lookup f with
  | some ⟨_, _, .func fd, _⟩ => (match fd.closure with | (_, c) :: _ => c | _ => 0)
  | _ => 0
def vAd : Value → Addr
  | .ref a => a
  | _ => 0
/-- a def of the text: where it stands, its names, its statement, what it closes over -/
structure FxS where
  at_ : Frag → Addr
  name : Str
  qual : Str
  st : Stmt
  cl : List Str
def FxS.val (d : FxS) : FxV := some (d.name, d.qual, defArgs d.st, FuncBody.stmts (defBody d.st), defScope d.st, mainGlobals, d.cl, builtinsNs)
theorem fx_ok {K : Frag} {f : Addr} {name qual : Str} {st : Stmt} (e : fx K f = some (name, qual, defArgs st, FuncBody.stmts (defBody st), defScope st, mainGlobals, [], builtinsNs)) :
    ∃ oc od osl doc pm an ct, K.lookup f = some ⟨oc, od, .func (fnOf name qual (defArgs st) (defBody st) (defScope st) (fxD K f) (fxK K f) doc pm an (fxC K f) ct), osl⟩ := by
  unfold fx at e
  unfold fxD fxK fxC
  cases q : K.lookup f with
  | none => rw [q] at e; cases e
  | some o =>
    obtain ⟨oc, od, dt, osl⟩ := o
    rw [q] at e
    cases dt with
    | func fd =>
      obtain ⟨n1, n2, n3, n4, n5, n6, n7, n8, n9, n10, n11, n12, n13, n14, n15⟩ := fd
      have e2 : (some (n1, n2, n3, n4, n5, n6, n7.map (·.1), n15) : FxV) = some (name, qual, defArgs st, FuncBody.stmts (defBody st), defScope st, mainGlobals, [], builtinsNs) := e
      simp only [Option.some.injEq, Prod.mk.injEq, List.map_eq_nil_iff] at e2
      obtain ⟨h1, h2, h3, h4, h5, h6, h7, h8⟩ := e2
      subst h1 h2 h3 h4 h5 h6 h7 h8
      exact ⟨oc, od, osl, n10, n11, n12, n14, rfl⟩
    | _ => cases e
theorem fx_sup {K : Frag} {f : Addr} {name qual : Str} {st : Stmt} (e : fx K f = some (name, qual, defArgs st, FuncBody.stmts (defBody st), defScope st, mainGlobals, [("__class__" : Str)], builtinsNs)) :
    ∃ oc od osl doc pm an ct, K.lookup f = some ⟨oc, od, .func (ksFn name qual (defArgs st) (defBody st) (defScope st) (fxD K f) (fxK K f) doc pm an (fxC K f) ct (fxX K f)), osl⟩ := by
  unfold fx at e
  unfold fxD fxK fxC fxX
  cases q : K.lookup f with
  | none => rw [q] at e; cases e
  | some o =>
    obtain ⟨oc, od, dt, osl⟩ := o
    rw [q] at e
    cases dt with
    | func fd =>
      obtain ⟨n1, n2, n3, n4, n5, n6, n7, n8, n9, n10, n11, n12, n13, n14, n15⟩ := fd
      have e2 : (some (n1, n2, n3, n4, n5, n6, n7.map (·.1), n15) : FxV) = some (name, qual, defArgs st, FuncBody.stmts (defBody st), defScope st, mainGlobals, [("__class__" : Str)], builtinsNs) := e
      simp only [Option.some.injEq, Prod.mk.injEq] at e2
      obtain ⟨h1, h2, h3, h4, h5, h6, h7, h8⟩ := e2
      cases n7 with
      | nil => cases h7
      | cons p r =>
        obtain ⟨y, c⟩ := p
        cases r with
        | cons p2 r2 => simp at h7
        | nil =>
          have h9 : y = "__class__" := by simpa using h7
          subst h1 h2 h3 h4 h5 h6 h8 h9
          exact ⟨oc, od, osl, n10, n11, n12, n14, rfl⟩
    | _ => cases e
def recB (K : Frag) (p : Addr) (T : String) (f : Addr) : Bool := match recIn K p T with
  | some (.ref g :: _) => decide (g = f)
  | _ => false
theorem recB_ok {K : Frag} {p f : Addr} {T : String} (h : recB K p T f = true) : ∃ rs, recIn K p T = some (.ref f :: rs) := by
  unfold recB at h
  split at h
  · rename_i g rs e
    rw [of_decide_eq_true h] at e
    exact ⟨rs, e⟩
  · cases h
def rf (K : Frag) (p : Addr) (T : String) : Addr := match recIn K p T with
  | some (.ref g :: _) => g
  | _ => 0
def cpA (K : Frag) (C : Addr) (m : Str) : Addr := match findCls K (.ref C) (.type "type") m with
  | some (.get _ (.ref p) _ _) => p
  | _ => 0
def cgB (K : Frag) (C : Addr) (gid : String) (m : Str) : Bool := match findCls K (.ref C) (.type "type") m with
  | some (.get (.builtin g) (.ref _) .none (.ref D)) => decide (g = gid) && decide (D = C)
  | _ => false
theorem cgB_ok {K : Frag} {C : Addr} {gid : String} {m : Str} (h : cgB K C gid m = true) : findCls K (.ref C) (.type "type") m = some (.get (.builtin gid) (.ref (cpA K C m)) .none (.ref C)) := by
  unfold cgB at h
  unfold cpA
  split at h
  · rename_i g p D e
    obtain ⟨h1, h2⟩ := Bool.and_eq_true_iff.mp h
    rw [e, of_decide_eq_true h1, of_decide_eq_true h2]
  · cases h
def cvB (K : Frag) (C : Addr) (m : Str) (f : Addr) : Bool := match findCls K (.ref C) (.type "type") m with
  | some (.val (.ref g)) => decide (g = f)
  | _ => false
theorem cvB_ok {K : Frag} {C f : Addr} {m : Str} (h : cvB K C m f = true) : findCls K (.ref C) (.type "type") m = some (.val (.ref f)) := by
  unfold cvB at h
  split at h
  · rename_i g e
    rw [e, of_decide_eq_true h]
  · cases h
def ciB (K : Frag) (C : Addr) (m : Str) (i : Int) : Bool := match findCls K (.ref C) (.type "type") m with
  | some (.val (.int j _)) => decide (j = i)
  | _ => false
theorem ciB_ok {K : Frag} {C : Addr} {m : Str} {i : Int} (h : ciB K C m i = true) : ∃ t, findCls K (.ref C) (.type "type") m = some (.val (.int i t)) := by
  unfold ciB at h
  split at h
  · rename_i j t e
    rw [of_decide_eq_true h] at e
    exact ⟨t, e⟩
  · cases h
def cbB (K : Frag) (C : Addr) (m : Str) (id : String) : Bool := match findCls K (.ref C) (.type "type") m with
  | some (.val (.builtin g)) => decide (g = id)
  | _ => false
theorem cbB_ok {K : Frag} {C : Addr} {m : Str} {id : String} (h : cbB K C m id = true) : findCls K (.ref C) (.type "type") m = some (.val (.builtin id)) := by
  unfold cbB at h
  split at h
  · rename_i g e
    rw [e, of_decide_eq_true h]
  · cases h
def gsB (K : Frag) (x v : Str) : Bool := match nsIn K mainGlobals x with
  | some (some (.str y _)) => decide (y = v)
  | _ => false
theorem gsB_ok {K : Frag} {x v : Str} (h : gsB K x v = true) : ∃ t, nsIn K mainGlobals x = some (some (.str v t)) := by
  unfold gsB at h
  split at h
  · rename_i y t e
    rw [of_decide_eq_true h] at e
    exact ⟨t, e⟩
  · cases h
def clB (K : Frag) (C : Addr) : Bool := (clsIn K C).isSome
theorem clB_ok {K : Frag} {C : Addr} (h : clB K C = true) : ∃ cd, clsIn K C = some cd := Option.isSome_iff_exists.mp h
/-- a code object whose third field is the file -/
def cfB (K : Frag) (c : Addr) : Bool := match K.lookup c with
  | some ⟨_, _, .fields vs, _⟩ => (match (vs[2]? : Option Value) with | some (Value.str x _) => decide (x = Str.ofString "/claim/cut.py") | _ => false)
  | _ => false
theorem cfB_ok {K : Frag} {c : Addr} (h : cfB K c = true) : ∃ oc od vs sl t, K.lookup c = some ⟨oc, od, .fields vs, sl⟩ ∧ vs[2]? = some (.str (Str.ofString "/claim/cut.py") t) := by
  unfold cfB at h
  split at h
  · rename_i oc od vs sl e
    split at h
    · rename_i x t e2
      rw [of_decide_eq_true h] at e2
      exact ⟨oc, od, vs, sl, t, e, e2⟩
    · cases h
  · cases h
def ceB (K : Frag) (c C : Addr) : Bool := match K.lookup c with
  | some ⟨_, _, .cell (some (.ref D)), _⟩ => decide (D = C)
  | _ => false
theorem ceB_ok {K : Frag} {c C : Addr} (h : ceB K c C = true) : ∃ oc od sl, K.lookup c = some ⟨oc, od, .cell (some (.ref C)), sl⟩ := by
  unfold ceB at h
  split at h
  · rename_i oc od D sl e
    rw [of_decide_eq_true h] at e
    exact ⟨oc, od, sl, e⟩
  · cases h
/-- a tuple of texts -/
def txB : List Value → List Str → Bool
  | [], [] => true
  | .str x _ :: r, y :: s => decide (x = y) && txB r s
  | _, _ => false
def tsB (K : Frag) (c : Addr) (ws : List Str) : Bool := match K.lookup c with
  | some ⟨.type n, _, .seq its _, _⟩ => n == "tuple" && txB its.toList ws
  | _ => false
theorem txB_ok : ∀ {its : List Value} {ws : List Str}, txB its ws = true → ∃ ts : List Tok, ts.length = ws.length ∧ its = (ws.zip ts).map fun p => Value.str p.1 p.2
  | [], [], _ => ⟨[], rfl, rfl⟩
  | .str x t :: r, y :: s, h => by
    obtain ⟨h1, h2⟩ := Bool.and_eq_true_iff.mp (show (decide (x = y) && txB r s) = true from h)
    obtain ⟨ts, e1, e2⟩ := txB_ok h2
    exact ⟨t :: ts, congrArg (· + 1) e1, by rw [of_decide_eq_true h1, e2]; rfl⟩
theorem tsB_ok {K : Frag} {c : Addr} {ws : List Str} (h : tsB K c ws = true) : ∃ (od : Option Addr) (n : Nat) (sl : Array (Option Value)) (ts : List Tok), ts.length = ws.length ∧ K.lookup c = some ⟨.type "tuple", od, .seq ((ws.zip ts).map fun p => Value.str p.1 p.2).toArray n, sl⟩ := by
  unfold tsB at h
  split at h
  · rename_i n od its m sl e
    obtain ⟨h1, h2⟩ := Bool.and_eq_true_iff.mp h
    obtain ⟨ts, e1, e2⟩ := txB_ok h2
    refine ⟨od, m, sl, ts, e1, ?_⟩
    rw [e, eq_of_beq h1, ← e2]
  · cases h
/-- a tuple of one object, an empty one -/
def t1B (K : Frag) (c x : Addr) : Bool := match K.lookup c with
  | some ⟨.type n, _, .seq its _, _⟩ => n == "tuple" && (match its.toList with | [.ref y] => decide (y = x) | _ => false)
  | _ => false
theorem t1B_ok {K : Frag} {c x : Addr} (h : t1B K c x = true) : ∃ (od : Option Addr) (n : Nat) (sl : Array (Option Value)), K.lookup c = some ⟨.type "tuple", od, .seq #[.ref x] n, sl⟩ := by
  unfold t1B at h
  split at h
  · rename_i n od its m sl e
    obtain ⟨h1, h2⟩ := Bool.and_eq_true_iff.mp h
    split at h2
    · rename_i y e2
      refine ⟨od, m, sl, ?_⟩
      have e3 : its = #[Value.ref y] := by
        obtain ⟨l⟩ := its
        simp only at e2
        rw [e2]
      rw [e, eq_of_beq h1, e3, of_decide_eq_true h2]
    · cases h2
  · cases h
def t1A (K : Frag) (c : Addr) : Addr := match K.lookup c with
  | some ⟨_, _, .seq its _, _⟩ => (match its.toList with | [.ref y] => y | _ => 0)
  | _ => 0
def nsA (K : Frag) (d : Addr) (x : Str) : Addr := match nsIn K d x with
  | some (some (.ref a)) => a
  | _ => 0
def t0B (K : Frag) (c : Addr) : Bool := match K.lookup c with
  | some ⟨.type n, _, .seq its _, _⟩ => n == "tuple" && its.toList.isEmpty
  | _ => false
theorem t0B_ok {K : Frag} {c : Addr} (h : t0B K c = true) : ∃ (od : Option Addr) (n : Nat) (sl : Array (Option Value)), K.lookup c = some ⟨.type "tuple", od, .seq #[] n, sl⟩ := by
  unfold t0B at h
  split at h
  · rename_i n od its m sl e
    obtain ⟨h1, h2⟩ := Bool.and_eq_true_iff.mp h
    refine ⟨od, m, sl, ?_⟩
    have e3 : its = #[] := by
      obtain ⟨l⟩ := its
      rw [List.isEmpty_iff] at h2
      simp only at h2
      rw [h2]
    rw [e, eq_of_beq h1, e3]
  · cases h
/-- an error class -/
def exB (K : Frag) (C : Addr) (bm : List Value) : Bool := match K.lookup C with
  | some ⟨.type n, _, .cls cd, sl⟩ => n == "type" && (match cd.mro, sl.toList with
    | .ref C' :: m, [_, _, _, _, some (.builtin n), _] => C' == C && n == "ValueError.__new__" && !cd.hasDel && decide (m = bm) && cd.hasDict
    | _, _ => false)
  | _ => false
theorem exB_ok {K : Frag} {C : Addr} {bm : List Value} (h : exB K C bm = true) : ∃ nm N qn bs sn sub ab col dd k0 k1 k2 k3 k5, K.lookup C = some (excClassObj nm qn C N bs bm true sn sub ab col dd k0 k1 k2 k3 k5 "ValueError.__new__") := by
  unfold exB at h
  split at h
  · rename_i n dd cd sl ho
    obtain ⟨h1, h⟩ := Bool.and_eq_true_iff.mp h
    split at h
    · rename_i C' m k0 k1 k2 k3 n2 k5 hm hs
      simp only [Bool.and_eq_true, beq_iff_eq, Bool.not_eq_true', decide_eq_true_iff] at h h1
      obtain ⟨⟨⟨⟨rfl, rfl⟩, hdel⟩, rfl⟩, hdct⟩ := h
      obtain ⟨nm, bs, mro, ns, qn, hd, sn, sub, ab, col, del⟩ := cd
      dsimp only at hm hdel hdct
      subst hm hdel hdct h1
      have hsl : sl = #[k0, k1, k2, k3, some (.builtin "ValueError.__new__"), k5] := by
        obtain ⟨l⟩ := sl
        simp only at hs
        rw [hs]
      subst hsl
      exact ⟨nm, ns, qn, bs, sn, sub, ab, col, dd, k0, k1, k2, k3, k5, ho⟩
    · cases h
  · cases h
def obsB (ex : List (Frag → Bool)) (fn : List FxS) (K : Frag) : Bool × List FxV := (ex.all fun b => b K, fn.map fun d => fx K (d.at_ K))
def valB (fn : List FxS) : Bool × List FxV := (true, fn.map FxS.val)
def SaysB (ex : List (Frag → Bool)) (fn : List FxS) (K : Frag) : Prop := obsB ex fn K = valB fn
def obsBG (n : Nat) (ex : List (Frag → Bool)) (fn : List FxS) (g : Addr → Option Obj) : Bool × List FxV := obsB ex fn (He.frG g (asB g n))
def hookB (n : Nat) (ex : List (Frag → Bool)) (fn : List FxS) : Hook where
  α := Bool × List FxV
  obs := fun s => obsBG n ex fn s.heap.get?
  val := fun _ => valB fn
  says := fun _ h => ∃ K : Frag, K.In h ∧ SaysB ex fn K
  of := fun _ _ e => ⟨_, He.frG_in, e⟩
  keeps := fun _ _ _ ⟨K, hK, c⟩ k => ⟨K, Frag.In.keeps hK k, c⟩
theorem obsBG_eq {n : Nat} {ex : List (Frag → Bool)} {fn : List FxS} {g : Addr → Option Obj} {s : Shared} (h : ∀ a, g a = s.heap.get? a) : obsBG n ex fn g = (hookB n ex fn).obs s := by
  have e : g = s.heap.get? := funext h
  rw [e] <;> rfl
section
variable {ex : List (Frag → Bool)} {fn : List FxS} {K : Frag}
theorem SaysB.fact (c : SaysB ex fn K) (i : Nat) {b : Frag → Bool} (h : ex[i]? = some b := by rfl) : b K = true :=
  List.all_eq_true.mp (show (ex.all fun b => b K) = true from congrArg (fun z : Bool × List FxV => z.1) c) b (List.mem_of_getElem? h)
theorem SaysB.fnc (c : SaysB ex fn K) (i : Nat) {d : FxS} (h : fn[i]? = some d := by rfl) : fx K (d.at_ K) = d.val := by
  have e : fn.map (fun d => fx K (d.at_ K)) = fn.map FxS.val := congrArg (fun z : Bool × List FxV => z.2) c
  have e2 : (fn.map fun d => fx K (d.at_ K))[i]? = (fn.map FxS.val)[i]? := by rw [e]
  rw [List.getElem?_map, List.getElem?_map, h] at e2
  exact Option.some.inj e2
end
theorem some3 {α β γ : Type} {a a' : α} {b b' : β} {c c' : γ} (h1 : a = a') (h2 : b = b') (h3 : c = c') : some (a, b, c) = some (a', b', c') := by
  subst h1 h2 h3
  rfl
end G
set_option Elab.async false
set_option linter.all false
set_option maxRecDepth 100000
set_option maxHeartbeats 2000000
namespace G
open PySem PySem.Spec PyProof.Rows L2 StX
instance {α : Type} [Rep α] [NoDc α] : NoDc (Ol α) := ⟨fun h d => ⟨d.1, d.2.imp fun _ _ x => NoDc.at_ h x⟩⟩
instance {α : Type} [Rep α] [NoDc α] : NoDc (Od α) := ⟨fun h d => ⟨d.1, d.2.imp fun _ _ x => NoDc.at_ h x⟩⟩
section
variable {W : Wd} {F : Hp} {L : OwnH} {Γ : Gam} {ta tb te : TE} {tt : TT} {t u : TS} {R : PoH} {g : TG}
/-- d.pop(k), d an own dict -/
def dropDc {β : Type} (l : List (Str × β)) (k : Str) : List (Str × β) := l.filter fun e => decide (e.1 ≠ k)
end
end G
set_option Elab.async false
set_option linter.all false
set_option maxRecDepth 100000
set_option maxHeartbeats 2000000
namespace G
open PySem PySem.Spec PyProof.Rows L2 StX
/-- readings put in one after another, in rack order -/
structure Rdi (gs : List Gau) (ws : List Str) (i : Nat) (ds : List (Str × Int)) (td : List (Str × (Int × Int))) : Prop where
  tw : Tw gs ws i ds td
  sub : (ds.map (·.1)).Sublist (ws.take i)
theorem Rdi.put {gs : List Gau} {ws : List Str} {i : Nat} {ds : List (Str × Int)} {td : List (Str × (Int × Int))} (h : Rdi gs ws i ds td) (nw : ws.Nodup) (ng : (gs.map Gau.nm).Nodup) {g : Gau} (hg : g ∈ gs) {w : Str} (hn : g.nm = w) (hw : ws[i]? = some w) (d : Int) :
    Rdi gs ws (i + 1) (putDc ds w d) (putDc td w (d - sbF g, d + saF g)) := by
  refine ⟨h.tw.put nw ng hg hn hw d, ?_⟩
  have hi := (List.getElem?_eq_some_iff.mp hw).1
  have hnk : w ∉ ds.map (·.1) := fun q => by
    have q := h.tw.keys w q
    obtain ⟨j, hj, e⟩ := List.getElem_of_mem q
    rw [List.length_take] at hj
    rw [List.getElem_take] at e
    have e2 := (List.getElem?_eq_some_iff.mp hw).2
    exact List.pairwise_iff_getElem.mp nw j i (by omega) hi (by omega) (e.trans e2.symm)
  rw [putDc_fr hnk, List.map_append, List.take_succ, hw]
  exact List.Sublist.append h.sub (List.Sublist.refl _)
end G
namespace G
open PySem PySem.Spec PyProof.Rows L2 StX
end G
namespace G
open PySem PySem.Spec PyProof.Rows L2 StX
end G
set_option Elab.async false
set_option linter.all false
set_option maxRecDepth 100000
set_option maxHeartbeats 2000000
namespace G
open PySem PySem.Spec PyProof.Rows L2 StX
structure CsT (B : Bs) : Prop where
  cl : L2.Cls B.K (B.cl .Case)
  n1 : NoAttr B.K (B.cl .Case) "level"
  n2 : NoAttr B.K (B.cl .Case) "readings"
  n3 : NoAttr B.K (B.cl .Case) "lot"
  n4 : NoAttr B.K (B.cl .Case) "reply"
structure Cs where
  lv : Int
  ds : List (Str × Int)
  lot : List Str
  rp : Int
def csF (lv : Int) (y z : V) (rp : Int) : List (Str × V) := [("level", .int lv), ("readings", y), ("lot", z), ("reply", .int rp)]
instance : Rep Cs :=
  ⟨fun W H v c => ∃ a dx y z, v = .ref a ∧ ¬ W.mu a ∧ H a = some (.ins (W.B.cl .Case) dx (csF c.lv y z c.rp)) ∧ den W H y (Dc.mk c.ds) ∧ den W H z c.lot ∧ CsT W.B,
   fun e ⟨a, dx, y, z, hv, m, h, h1, h3, h2⟩ => ⟨a, dx, y, z, hv, m, e _ _ m h, Rep.mono e h1, Rep.mono e h3, h2⟩,
   fun D n ⟨a, dx, y, z, hv, m, h, h1, h3, h2⟩ => ⟨a, dx, y, z, hv, mu_grow n m h, h, Rep.grow D n h1, Rep.grow D n h3, h2⟩,
   fun D ⟨a, dx, y, z, hv, m, h, h1, h3, h2⟩ => ⟨a, dx, y, z, hv, fun z => m (.inl z), h, Rep.shrink D h1, Rep.shrink D h3, h2⟩⟩
instance : Ins Cs .Case ["level", "readings", "lot", "reply"] := ⟨fun ⟨a, dx, y, z, hv, m, h, _⟩ => ⟨a, dx, _, hv, m, h, rfl⟩⟩
theorem Dk.drop {β : Type} {f : V → β → Prop} (k : Str) : ∀ {kvs : List (Key × V)} {l : List (Str × β)}, Dk f kvs l → Dk f (dropK kvs (.inr k)) (dropDc l k)
  | _, _, .nil => .nil
  | _, _, .cons (k := a) h t => by
    unfold dropK dropDc
    by_cases e : a = k
    · rw [List.filter_cons_of_neg (by simpa using inr_iff.mpr e), List.filter_cons_of_neg (by simpa using e)]
      exact t.drop k
    · rw [List.filter_cons_of_pos (by simpa using fun q => e (inr_iff.mp q)), List.filter_cons_of_pos (by simpa using e)]
      exact .cons h (t.drop k)
theorem sxh_dpop {W : Wd} {F : Hp} {L : OwnH} {Γ : Gam} {R : PoH} {β : Type} {rβ : Rep β} {i : Nat} (n : Nat) {ty : TE} {p : Addr} {kvs : List (Key × V)} {ds : List (Str × β)} (hk : L[n]? = some (p, .dK kvs)) (hi : Γ[i]? = some (some (T (Od.mk p kvs ds))))
    (h : ∀ Wo, OwnHW W L Wo → EvK Wo ty Γ fun k : Str => (getDc ds k).isSome = true ∧ ∀ kvs', R.nx (L.set n (p, .dK kvs')) (Γ.set i (some (T (Od.mk p kvs' (dropDc ds k)))))) : SxH W F (tDrop (tDPop1 (tVar i) ty)) L Γ R := fun D σ H oF nF wF nd G O => by
  obtain ⟨h1, h3⟩ := od_at G hi
  refine ⟨_, h1, p, rfl, .inl ⟨kvs, .inl (G.ok.2 _ (List.mem_of_getElem? hk))⟩, ?_⟩
  refine h _ (ownH_w wF) σ H _ G fun y H1 k e1 dy ⟨hs, q⟩ => ?_
  have G1 := G.ext e1
  obtain ⟨_, h5⟩ := od_at G1 hi
  have dy : y = .str k := dy
  have hp := G1.ok.2 _ (List.mem_of_getElem? hk)
  obtain ⟨b, hb⟩ := Option.isSome_iff_exists.mp hs
  rcases h5.get k with ⟨_, h7⟩ | ⟨v, b', h6, h7, h8⟩
  · rw [hb] at h7; cases h7
  · refine ⟨kvs, .inr k, v, hp, dy, h6, ?_⟩
    exact ownH_put (T (Od.mk p _ (dropDc ds k))) nd G1 (O.step G1.ok.1 (ownH_stp e1)) hk h1 (fun kp => ⟨rfl, (h5.drop k).imp fun _ _ d => Rep.mono kp d⟩) (q _)
end G
namespace G
open PySem PySem.Spec PyProof.Rows L2 StX
end G
namespace G
open PySem PySem.Spec PyProof.Rows L2 StX
end G
set_option Elab.async false
set_option linter.all false
set_option maxRecDepth 100000
set_option maxHeartbeats 2000000
namespace G
open PySem PySem.Spec PyProof.Rows L2 StX
end G
set_option Elab.async false
set_option linter.all false
set_option maxRecDepth 100000
set_option maxHeartbeats 2000000
namespace G
open PySem PySem.Spec PyProof.Rows L2 StX
section
variable {Y : Cx} {xe : Value → Shared → Prop} {pins : List (Addr × Obj)} {σ : L2.St} {H : Hp} {s : Shared}
theorem okx (ok : Y.Ok) : ({ Y with xe := xe } : Cx).Ok :=
  ⟨ok.mod, ok.kind, ok.glob, ok.blt, ok.above, ok.inj, ok.has, ok.cab, ok.hd, ok.frames, ok.stk, ok.exf, ok.bs, ok.bsz, ok.noex, ok.exfs, ok.funs, ok.frf⟩
end
/-- what is wished of errors in W holds in W' -/
def XIn (W W' : Wd) : Prop := ∀ (E : XK) (x : Xn → Prop), (∀ H', W.ok H' → W.wish H' → XOk W H' E x) → ∀ H', W'.ok H' → W'.wish H' → XOk W' H' E x
theorem XIn.plus {W : Wd} {D : Addr} {xs : List V} {H1 : Hp} {n : H1 D = none} {o1 : W.ok H1} {w1 : W.wish H1} : XIn W (W.plus D xs H1 n o1 w1) := fun E x h H' o w nn d H2 e z q => by
  have s : Sub W (W.plus D xs H1 n o1 w1) := Sub.plus
  refine h H2 (s.ok H2 e.ok) (s.wish H2 e.ok ((W.plus D xs H1 n o1 w1).wst H' H2 e.keep e.ok w)) nn d H2 (Ext.refl (s.ok H2 e.ok)) ?_ q
  rcases z with z | ⟨dd, vs, a1, a2, a3, a4⟩
  · exact .inl z
  · exact .inr ⟨dd, vs, a1, fun m => a2 (.inl m), a3, a4.imp fun _ _ y => Fv.shrink D y⟩
theorem getDc_drop {β : Type} (l : List (Str × β)) (k w : Str) : getDc (dropDc l k) w = if w = k then none else getDc l w := by
  unfold getDc dropDc
  rw [List.find?_filter]
  by_cases q : w = k
  · rw [if_pos q, Option.map_eq_none_iff, List.find?_eq_none]
    intro e he z
    simp only [Bool.and_eq_true, decide_eq_true_eq] at z
    exact z.1 (z.2.trans q)
  · rw [if_neg q]
    congr 1
    refine congrArg (fun f => List.find? f l) (funext fun e => ?_)
    by_cases z : e.1 = w
    · have z2 : e.1 ≠ k := fun r => q (z.symm.trans r)
      simp [z, z2, q]
    · simp [z]
def misF {β : Type} (ds : List (Str × β)) (ns : List Str) : Option Str := ns.find? fun n => (getDc ds n).isNone
def MisR (ds : List (Str × Int)) (r : Ru) (ok : Int → Prop) (xx : Xn → Prop) : Prop := match misF ds (namesF r) with
  | none => ok (ansF (rdF ds) r)
  | some n => (reprText n).length ≤ 3000 ∧ n.length ≤ 3000 ∧ xx ⟨.MissingReading, [("name", .s n)]⟩
theorem MisR.imp {ds : List (Str × Int)} {r : Ru} {ok ok' : Int → Prop} {xx : Xn → Prop} (h : MisR ds r ok xx) (i : ∀ a, ok a → ok' a) : MisR ds r ok' xx := by
  unfold MisR at h ⊢
  split at h
  · exact i _ h
  · exact h
end G
set_option Elab.async false
set_option linter.all false
set_option maxRecDepth 100000
set_option maxHeartbeats 2000000
namespace G
open PySem PySem.Spec PyProof.Rows L2 StX
structure FF (H H' : Hp) (p : Addr) (qs : List Addr) (fl : List (List Str)) : Prop where
  new : ∀ a ∈ p :: qs, H a = none
  nd : (p :: qs).Nodup
  len : qs.length = fl.length
  atp : H' p = some (.lst (qs.map V.ref))
  atq : ∀ (i : Nat) (q : Addr) (f : List Str), qs[i]? = some q → fl[i]? = some f → H' q = some (.lst (f.map V.str))
def EvFF (W : Wd) (te : TE) (Γ : Gam) (k : List (List Str) → Prop) : Prop :=
  ∀ σ H (Q : VK), GOk W H σ Γ → (∀ p qs H' fl, Ext W H H' → FF H H' p qs fl → k fl → Q (.ref p) H') → te σ H Q
theorem dl_of_strs {W : Wc} {H : Hp} : ∀ l : List Str, Dl (den W H) (l.map V.str) l
  | [] => .nil
  | a :: r => .cons rfl (dl_of_strs r)
theorem EvFF.imp {W : Wd} {te : TE} {Γ : Gam} {k k' : List (List Str) → Prop} (h : EvFF W te Γ k) (i : ∀ fl, k fl → k' fl) : EvFF W te Γ k' := fun σ H Q G c => h σ H Q G fun p qs H' fl e f q => c p qs H' fl e f (i fl q)
theorem EvFF.k {W : Wd} {te : TE} {Γ : Gam} {k : List (List Str) → Prop} (h : EvFF W te Γ k) : EvK W te Γ k := fun σ H Q G c => h σ H Q G fun p qs H' fl e f q => by
  have nm : ∀ a ∈ p :: qs, ¬ W.mu a := fun a ha => fresh_mu G.ok (f.new a ha)
  refine c (.ref p) H' fl e ⟨p, qs.map V.ref, rfl, ⟨nm p List.mem_cons_self, f.atp⟩, ?_⟩ q
  refine dl_of_at (by rw [List.length_map]; exact f.len) fun i v a hv ha => ?_
  rw [List.getElem?_map] at hv
  cases hq : qs[i]? with
  | none => rw [hq] at hv; cases hv
  | some q =>
    rw [hq] at hv
    cases hv
    exact ⟨q, a.map V.str, rfl, ⟨nm q (List.mem_cons_of_mem _ (List.mem_of_getElem? hq)), f.atq i q a hq ha⟩, dl_of_strs a⟩
theorem growLs {W : Wc} {H : Hp} {v : V} (t : Ty) {r : List Addr} : ∀ ks : List Addr, (∀ k ∈ ks, H k = none) → t.den (W.plusL r) H v → t.den (W.plusL (ks ++ r)) H v
  | [], _, d => d
  | k :: ks, h, d => t.r.grow k (h k List.mem_cons_self) (growLs t ks (fun j hj => h j (List.mem_cons_of_mem _ hj)) d)
section
variable {W : Wd} {F : Hp} {L : OwnH} {Γ : Gam} {R : PoH} {te to : TE}
theorem newHs {H H1 : Hp} {σ : L2.St} {D : Ends} {oF : W.ok F} {nF : ∀ k ∈ keysH L, F k = none} {i : Nat} (N : OwnH) (v : V) (t : Ty) (nd : (keysH L).Nodup) (G : GOk (W.ownH F L oF nF) H σ Γ) (O : EOkH W F L H D R)
    (n : ∀ k ∈ keysH N, H k = none) (ndN : (keysH N).Nodup) (e : Ext (W.ownH F L oF nF) H H1) (hp : ∀ x ∈ N, H1 x.1 = some x.2) (ht : t.den (W.toWc.plusL (keysH (N ++ L))) H1 v) (q : R.nx (N ++ L) (Γ.set i (some t))) : D.nx (σ.set i (some v)) H1 := by
  have hks : keysH (N ++ L) = keysH N ++ keysH L := List.map_append
  have nF' : ∀ k ∈ keysH (N ++ L), F k = none := fun k hk => by
    rw [hks] at hk
    rcases List.mem_append.mp hk with hk | hk
    · exact fresh_FH G.ok.1 G.wish (n k hk)
    · exact nF k hk
  have nd' : (keysH (N ++ L)).Nodup := by
    rw [hks]
    refine List.nodup_append.mpr ⟨ndN, nd, fun a ha b hb z => ?_⟩
    subst z
    obtain ⟨x, hx, e1⟩ := List.mem_map.mp hb
    have h1 := G.ok.2 x hx
    have h2 := n a ha
    rw [e1, h2] at h1
    cases h1
  have s : StpH W L H (N ++ L) H1 := ⟨e.keep, fun k hk => by
    rw [hks] at hk
    rcases List.mem_append.mp hk with hk | hk
    · exact .inr (n k hk)
    · exact .inl hk⟩
  have G1 := G.ext e
  have kp : Kp (W.toWc.plusL (keysH (N ++ L))) H H1 := fun b u m z => e.keep b u (fun z => m (by
    rw [hks]
    rcases plusL_mu.mp z with z | z
    · exact plusL_mu.mpr (.inl z)
    · exact plusL_mu.mpr (.inr (List.mem_append_right _ z)))) z
  have G2 : GOk (W.ownH F (N ++ L) oF nF') H1 σ Γ := ⟨⟨G1.ok.1, fun x hx => by
    rcases List.mem_append.mp hx with hx | hx
    · exact hp x hx
    · exact G1.ok.2 x hx⟩, G1.wish, fun j t ht => by
      obtain ⟨v, h1, h2⟩ := G.at_ j t ht
      have h3 : t.den (W.toWc.plusL (keysH (N ++ L))) H v := by
        rw [hks]
        exact growLs t (keysH N) n h2
      exact ⟨v, h1, Ty.mono kp h3⟩, G.len⟩
  exact O.nx _ oF nF' _ H1 _ s nd' (G2.set i (t := t) ht) q
end
theorem sl_tupAK {X : Cx} (K : PySem.W.Frag) (hK : X.K = K := by rfl) : SlR X (rSlA K) := by subst hK; exact sl_tupA
section
variable {W : Wd} {Γ : Gam} {ta tb te : TE} {K : PySem.W.Frag}
theorem ev_slTl {α : Type} {rα : Rep α} {k : Tl α → Prop} {tlo thi : TO} (lo hi : Option Int) (hK : W.B.K = K) (h : EvK W te Γ fun a : Tl α => (∀ σ H (Q : Option Int → Hp → Prop), GOk W H σ Γ → (∀ H', Ext W H H' → Q lo H') → tlo σ H Q) ∧ (∀ σ H (Q : Option Int → Hp → Prop), GOk W H σ Γ → (∀ H', Ext W H H' → Q hi H') → thi σ H Q) ∧
      k ⟨(a.xs.drop (HT.sIx a.xs.length 0 lo)).take (HT.sIx a.xs.length a.xs.length hi - HT.sIx a.xs.length 0 lo)⟩) : EvK W (tSl (rSlA K) te tlo thi) Γ k := by
  subst hK
  refine fun σ H Q G c => h σ H _ G fun v H1 a e1 d ⟨h1, h2, q⟩ => h1 σ H1 _ (G.ext e1) fun H2 e2 => h2 σ H2 _ ((G.ext e1).ext e2) fun H3 e3 => ?_
  have e4 := (e1.trans e2).trans e3
  obtain ⟨p, xs, rfl, hp, hd⟩ := Rep.mono (W := W.toWc) (a := a) (e2.trans e3).keep d
  have hl := hd.length
  refine ⟨p, xs, rfl, hp.sq, fun hw => ?_, fun hw l hn => ?_⟩
  · refine c _ H3 _ e4 ⟨p, xs, rfl, hp, ?_⟩ q
    show Dl _ xs ((a.xs.drop (HT.sIx a.xs.length 0 lo)).take (HT.sIx a.xs.length a.xs.length hi - HT.sIx a.xs.length 0 lo))
    rw [← hl, hw.1, hw.2, List.drop_zero, Nat.sub_zero, hl, List.take_length]
    exact hd
  · have e5 := Ext.new (o := .tup (cutV xs lo hi)) e4.ok hn
    refine c _ _ _ (e4.trans e5) ⟨l, cutV xs lo hi, rfl, ⟨fresh_mu e4.ok hn, upd_same⟩, ?_⟩ q
    have ec : cutV xs lo hi = (xs.drop (HT.sIx a.xs.length 0 lo)).take (HT.sIx a.xs.length a.xs.length hi - HT.sIx a.xs.length 0 lo) := by
      unfold cutV
      rw [hl]
    have z := dl_take (HT.sIx a.xs.length a.xs.length hi - HT.sIx a.xs.length 0 lo) (dl_drop (HT.sIx a.xs.length 0 lo) (hd.imp fun _ _ d => Rep.mono (W := W.toWc) e5.keep d))
    rw [← ec] at z
    exact z
theorem pz_none {σ : L2.St} : ∀ σ H (Q : Option Int → Hp → Prop), GOk W H σ Γ → (∀ H', Ext W H H' → Q none H') → tNoPart σ H Q := fun σ H Q G c => c H (Ext.refl G.ok)
theorem pz_some {t : TE} {n : Int} (h : EvK W t Γ fun m : Int => m = n) : ∀ σ H (Q : Option Int → Hp → Prop), GOk W H σ Γ → (∀ H', Ext W H H' → Q (some n) H') → tPart t σ H Q := fun σ H Q G c => h σ H _ G fun v H1 m e d hm => by
  subst hm
  exact ⟨m, d, c H1 e⟩
/-- t[:n] -/
theorem ev_uptoTl {α : Type} {rα : Rep α} {k : Tl α → Prop} (n : Nat) (hK : W.B.K = K) (h : EvK W te Γ fun a : Tl α => EvK W tb Γ (fun m : Int => m = n) ∧ k ⟨a.xs.take n⟩) : EvK W (tSl (rSlA K) te tNoPart (tPart tb)) Γ k :=
  ev_slTl none (some (n : Int)) hK (h.imp fun a ⟨h1, q⟩ => ⟨pz_none (σ := []), pz_some h1, by
    rw [show HT.sIx a.xs.length 0 none = 0 from rfl, HT.sIx_nat, List.drop_zero, Nat.sub_zero, show a.xs.take (min n a.xs.length) = a.xs.take n by rw [List.take_eq_take_iff]; omega]
    exact q⟩)
end
end G
set_option Elab.async false
set_option linter.all false
set_option maxRecDepth 100000
set_option maxHeartbeats 2000000
namespace G
open PySem PySem.Spec PyProof.Rows L2 StX
end G
set_option Elab.async false
set_option linter.all false
set_option maxRecDepth 100000
set_option maxHeartbeats 2000000
namespace G
open PySem PySem.Spec PyProof.Rows L2 StX
structure TwT (B : Bs) : Prop where
  cl : L2.Cls B.K (B.cl .Twins)
  n1 : NoAttr B.K (B.cl .Twins) "readings"
  n2 : NoAttr B.K (B.cl .Twins) "low_level"
  n3 : NoAttr B.K (B.cl .Twins) "low_lot"
  n4 : NoAttr B.K (B.cl .Twins) "high_level"
  n5 : NoAttr B.K (B.cl .Twins) "high_lot"
structure Twn where
  ds : List (Str × Int)
  lo : Int
  ll : List Str
  hi : Int
  hl : List Str
def twF (x : V) (lo : Int) (y : V) (hi : Int) (z : V) : List (Str × V) := [("readings", x), ("low_level", .int lo), ("low_lot", y), ("high_level", .int hi), ("high_lot", z)]
instance : Rep Twn :=
  ⟨fun W H v c => ∃ a dx x y z, v = .ref a ∧ ¬ W.mu a ∧ H a = some (.ins (W.B.cl .Twins) dx (twF x c.lo y c.hi z)) ∧ den W H x (Dc.mk c.ds) ∧ den W H y c.ll ∧ den W H z c.hl ∧ TwT W.B,
   fun e ⟨a, dx, x, y, z, hv, m, h, h1, h2, h3, hT⟩ => ⟨a, dx, x, y, z, hv, m, e _ _ m h, Rep.mono e h1, Rep.mono e h2, Rep.mono e h3, hT⟩,
   fun D n ⟨a, dx, x, y, z, hv, m, h, h1, h2, h3, hT⟩ => ⟨a, dx, x, y, z, hv, mu_grow n m h, h, Rep.grow D n h1, Rep.grow D n h2, Rep.grow D n h3, hT⟩,
   fun D ⟨a, dx, x, y, z, hv, m, h, h1, h2, h3, hT⟩ => ⟨a, dx, x, y, z, hv, fun z => m (.inl z), h, Rep.shrink D h1, Rep.shrink D h2, Rep.shrink D h3, hT⟩⟩
instance : Ins Twn .Twins ["readings", "low_level", "low_lot", "high_level", "high_lot"] := ⟨fun ⟨a, dx, x, y, z, hv, m, h, _⟩ => ⟨a, dx, _, hv, m, h, rfl⟩⟩
end G
set_option Elab.async false
set_option linter.all false
set_option maxRecDepth 100000
set_option maxHeartbeats 2000000
namespace G
open PySem PySem.Spec PyProof.Rows L2 StX
/-- as, cut at t, looks as bs does, cut at u -/
def CutL (t u : Int) : List Int → List Int → Prop
  | [], [] => True
  | a :: as, b :: bs => (a ≤ t ↔ b ≤ u) ∧ CutL t u as bs
  | _, _ => False
theorem CutL.length {t u : Int} : ∀ {as bs : List Int}, CutL t u as bs → as.length = bs.length
  | [], [], _ => rfl
  | _ :: _, _ :: _, h => congrArg (· + 1) (CutL.length h.2)
end G
set_option Elab.async false
set_option linter.all false
set_option maxRecDepth 100000
set_option maxHeartbeats 2000000
namespace G
open PySem PySem.Spec PyProof.Rows L2 StX
inductive Nm where
  | s (x : Str) | n | i (j : Int) | t (x : Str)
deriving DecidableEq
def nmD (W : Wc) (H : Hp) (v : V) : Nm → Prop
  | .s x => v = .str x
  | .n => v = .non
  | .i j => v = .int j
  | .t x => ∃ q, v = .ref q ∧ Tq W H q [.str x]
instance : Rep Nm where
  dn := nmD
  mono := fun {W H H' v a} e h => by
    cases a with
    | s x => exact h
    | n => exact h
    | i j => exact h
    | t x => exact h.imp fun q z => ⟨z.1, z.2.mono e⟩
  grow := fun {W H v a} D n h => by
    cases a with
    | s x => exact h
    | n => exact h
    | i j => exact h
    | t x => exact h.imp fun q z => ⟨z.1, z.2.grow D n⟩
  shrink := fun {W H v a} D h => by
    cases a with
    | s x => exact h
    | n => exact h
    | i j => exact h
    | t x => exact h.imp fun q z => ⟨z.1, z.2.shrink D⟩
def nmP : Nm → PyData
  | .s x => .str x
  | .n => .none
  | .i j => .int j
  | .t x => .tuple [.str x]
theorem eqv_t1 (x y : Str) : PyData.eqv (.tuple [.str x]) (.tuple [.str y]) = (x == y) := by
  show ((x == y) && true) = _
  rw [Bool.and_true]
instance : Dat Nm where
  toD := nmP
  dp := fun {W H v a} h => by
    cases a with
    | s x => cases (show v = .str x from h); exact .str x
    | n => cases (show v = .non from h); exact .non
    | i j => cases (show v = .int j from h); exact .int j
    | t x =>
      obtain ⟨q, rfl, z⟩ := h
      exact .tup z.sq (.cons (.str x) .nil)
  dep := 1
  ddep := fun a => by
    cases a with
    | s x => exact Nat.zero_le 1
    | n => exact Nat.zero_le 1
    | i j => exact Nat.zero_le 1
    | t x => exact Nat.le_refl 1
  inj := fun a b => by
    cases a with
    | s x => cases b with
      | s y => exact (beq_iff_eq (a := x) (b := y)).trans ⟨fun h => by rw [h], fun h => by cases h; rfl⟩
      | n => exact ⟨fun h => Bool.noConfusion h, fun h => nomatch h⟩
      | i j => exact ⟨fun h => Bool.noConfusion h, fun h => nomatch h⟩
      | t y => exact ⟨fun h => Bool.noConfusion h, fun h => nomatch h⟩
    | n => cases b with
      | s y => exact ⟨fun h => Bool.noConfusion h, fun h => nomatch h⟩
      | n => exact ⟨fun _ => rfl, fun _ => rfl⟩
      | i j => exact ⟨fun h => Bool.noConfusion h, fun h => nomatch h⟩
      | t y => exact ⟨fun h => Bool.noConfusion h, fun h => nomatch h⟩
    | i j => cases b with
      | s y => exact ⟨fun h => Bool.noConfusion h, fun h => nomatch h⟩
      | n => exact ⟨fun h => Bool.noConfusion h, fun h => nomatch h⟩
      | i l => exact (beq_iff_eq (a := j) (b := l)).trans ⟨fun h => by rw [h], fun h => by cases h; rfl⟩
      | t y => exact ⟨fun h => Bool.noConfusion h, fun h => nomatch h⟩
    | t x => cases b with
      | s y => exact ⟨fun h => Bool.noConfusion h, fun h => nomatch h⟩
      | n => exact ⟨fun h => Bool.noConfusion h, fun h => nomatch h⟩
      | i j => exact ⟨fun h => Bool.noConfusion h, fun h => nomatch h⟩
      | t y =>
        show PyData.eqv (.tuple [.str x]) (.tuple [.str y]) = true ↔ _
        rw [eqv_t1]
        exact beq_iff_eq.trans ⟨fun h => by rw [h], fun h => by cases h; rfl⟩
  good := fun a => ∀ x, a = .s x ∨ a = .t x → (PyData.str x).canLay0 = true
  gshp := fun a h => by
    cases a with
    | s x => exact h x (.inl rfl)
    | n => rfl
    | i j => rfl
    | t x =>
      show ((PyData.str x).canLay0 && true) = true
      rw [h x (.inr rfl)]
      rfl
inductive Rs where
  | one (x : Nm) | lst (x : Nm)
deriving DecidableEq
def rsD (W : Wc) (H : Hp) (v : V) : Rs → Prop
  | .one x => den W H v x
  | .lst x => den W H v [x]
instance : Rep Rs where
  dn := rsD
  mono := fun {W H H' v a} e h => by
    cases a with
    | one x => exact Rep.mono (a := x) e h
    | lst x => exact Rep.mono (a := [x]) e h
  grow := fun {W H v a} D n h => by
    cases a with
    | one x => exact Rep.grow (a := x) D n h
    | lst x => exact Rep.grow (a := [x]) D n h
  shrink := fun {W H v a} D h => by
    cases a with
    | one x => exact Rep.shrink (a := x) D h
    | lst x => exact Rep.shrink (a := [x]) D h
def rsP : Rs → PyData
  | .one x => Dat.toD x
  | .lst x => Dat.toD [x]
instance : Dat Rs where
  toD := rsP
  dp := fun {W H v a} h => by
    cases a with
    | one x => exact Dat.dp (a := x) h
    | lst x => exact Dat.dp (a := [x]) h
  dep := 2
  ddep := fun a => by
    cases a with
    | one x => exact Nat.le_trans (Dat.ddep x) (by decide)
    | lst x => exact Dat.ddep [x]
  inj := fun a b => by
    cases a with
    | one x => cases b with
      | one y => exact (Dat.inj x y).trans ⟨fun h => by rw [h], fun h => by cases h; rfl⟩
      | lst y => cases x <;> exact ⟨fun h => Bool.noConfusion h, fun h => nomatch h⟩
    | lst x => cases b with
      | one y => cases y <;> exact ⟨fun h => Bool.noConfusion h, fun h => nomatch h⟩
      | lst y => exact (Dat.inj [x] [y]).trans ⟨fun h => by cases h; rfl, fun h => by cases h; rfl⟩
  good := fun a => match a with | .one x => Dat.good x | .lst x => Dat.good x
  gshp := fun a h => by
    cases a with
    | one x => exact Dat.gshp x h
    | lst x => exact Dat.gshp [x] fun y hy => by rw [List.mem_singleton.mp hy]; exact h
end G
set_option Elab.async false
set_option linter.all false
set_option maxRecDepth 100000
set_option maxHeartbeats 2000000
namespace G
open PySem PySem.Spec PyProof.Rows L2 StX
/-- what BadGauge with the name v means for a caller: nothing older than p has changed -/
def BadE (B : Bs) (W : Wd) (H : Hp) (p : Addr) (v : V) (E : XK) : Prop := ∀ H' d, (∀ a o, ¬ W.mu a → a ≠ p → H a = some o → H' a = some o) → W.ok H' → H' d = none → E (.ref (B.cl .BadGauge)) (some d) (upd H' d (.xd [("name", v)]))
theorem BadE.after {B : Bs} {W : Wd} {H H1 : Hp} {p : Addr} {v : V} {E : XK} (h : BadE B W H p v E) (k : ∀ a o, ¬ W.mu a → a ≠ p → H a = some o → H1 a = some o) : BadE B W H1 p v E :=
  fun H' d e => h H' d fun a o m n z => e a o m n (k a o m n z)
def Nm.isS : Nm → Bool
  | .s _ => true
  | _ => false
end G
set_option Elab.async false
set_option linter.all false
set_option maxRecDepth 100000
set_option maxHeartbeats 2000000
namespace G
open PySem PySem.Spec PyProof.Rows L2 StX
end G
set_option Elab.async false
set_option linter.all false
set_option maxRecDepth 100000
set_option maxHeartbeats 2000000
namespace G
open PySem PySem.Spec PyProof.Rows L2 StX
def txtE (e : Int × Value) : Str := match e.2 with | .str x _ => x | _ => Str.empty
def OkT (P : Program) (w : World) (e : Int × Value) : Prop := ∃ x tk, e.2 = Value.str x tk ∧ e.1 = (strKind P w).hash x
def SetT (P : Program) (w : World) (h : Heap) (a : Addr) (S : Str → Bool) (n : Nat) : Prop :=
  ∃ o es ep t, h.get? a = some o ∧ o.ExactSet ∧ o.data = .set es ep t ∧ (∀ e ∈ es.toList, OkT P w e) ∧ (es.toList.map txtE).Nodup ∧ (∀ k, S k = true ↔ k ∈ es.toList.map txtE) ∧
    es.size < scanBound ∧ t.fits es.size = true ∧ es.size = n ∧ Ris t.place.toList ∧ (w.params.followText "set-order" = true ∨ t.led = true)
section
variable {P : Program} {w : World}
theorem SetT.lt {h : Heap} {a : Addr} {S : Str → Bool} {n : Nat} (R : SetT P w h a S n) : a < h.objs.size := by
  obtain ⟨o, _, _, _, ho, _⟩ := R
  exact Heap.lt_size ho
variable {A : Around} {E : Value → Shared → Prop} {s : Shared} {a : Addr} {S : Str → Bool} {n : Nat}
end
end G
set_option Elab.async false
set_option linter.all false
set_option maxRecDepth 100000
set_option maxHeartbeats 2000000
namespace G
open PySem PySem.Spec PyProof.Rows L2 StX
end G
set_option Elab.async false
set_option linter.all false
set_option maxRecDepth 100000
set_option maxHeartbeats 2000000
namespace G
open PySem PySem.Spec PyProof.Rows L2 StX
structure SG (γ : Type) (SO : Addr → (γ → Bool) → Nat → HO) where
  S : γ → Bool
  n : Nat
instance {γ : Type} {SO : Addr → (γ → Bool) → Nat → HO} : Rep (SG γ SO) := ⟨fun W H v s => ∃ a, v = .ref a ∧ ¬ W.mu a ∧ H a = some (SO a s.S s.n), fun e ⟨a, hv, m, h⟩ => ⟨a, hv, m, e _ _ m h⟩, fun D n ⟨a, hv, m, h⟩ => ⟨a, hv, mu_grow n m h, h⟩, fun D ⟨a, hv, m, h⟩ => ⟨a, hv, fun z => m (.inl z), h⟩⟩
end G
set_option Elab.async false
set_option linter.all false
set_option maxRecDepth 100000
set_option maxHeartbeats 2000000
namespace G
open PySem PySem.Spec PyProof.Rows L2 StX
end G
set_option Elab.async false
set_option linter.all false
set_option maxRecDepth 100000
set_option maxHeartbeats 2000000
namespace G
open PySem PySem.Spec PyProof.Rows L2 StX
open Sem (wp)
end G
set_option Elab.async false
set_option linter.all false
set_option maxRecDepth 100000
set_option maxHeartbeats 2000000
namespace G
open PySem PySem.Spec PyProof.Rows L2 StX
end G
set_option Elab.async false
set_option linter.all false
set_option maxRecDepth 100000
set_option maxHeartbeats 2000000
namespace G
open PySem PySem.Spec PyProof.Rows L2 StX
structure FinT (B : Bs) : Prop where
  cl : L2.Cls B.K (B.cl .Finder)
  nr : NoAttr B.K (B.cl .Finder) "_rules"
  nl : NoAttr B.K (B.cl .Finder) "_left"
structure Fi where
  rs : List Ru
  lf : List Int
instance : Rep Fi :=
  ⟨fun W H v r => ∃ a dx w u, v = .ref a ∧ ¬ W.mu a ∧ H a = some (.ins (W.B.cl .Finder) dx [("_rules", w), ("_left", u)]) ∧ den W H w (Tl.mk r.rs) ∧ den W H u r.lf ∧ FinT W.B,
   fun {W H H' v r} e ⟨a, dx, w, u, hv, m, h, h1, h3, h2⟩ => ⟨a, dx, w, u, hv, m, e _ _ m h, Rep.mono (a := Tl.mk r.rs) e h1, Rep.mono (a := r.lf) e h3, h2⟩,
   fun {W H v r} D n ⟨a, dx, w, u, hv, m, h, h1, h3, h2⟩ => ⟨a, dx, w, u, hv, mu_grow n m h, h, Rep.grow (a := Tl.mk r.rs) D n h1, Rep.grow (a := r.lf) D n h3, h2⟩,
   fun {W H v r} D ⟨a, dx, w, u, hv, m, h, h1, h3, h2⟩ => ⟨a, dx, w, u, hv, fun z => m (.inl z), h, Rep.shrink (a := Tl.mk r.rs) D h1, Rep.shrink (a := r.lf) D h3, h2⟩⟩
instance : Ins Fi .Finder ["_rules", "_left"] := ⟨fun ⟨a, dx, w, u, hv, m, h, _⟩ => ⟨a, dx, _, hv, m, h, rfl⟩⟩
end G
namespace G
open PySem PySem.Spec PyProof.Rows L2 StX
instance {β : Type} [Rep β] : NotNon (Dc β) := ⟨fun ⟨p, _, hv, _⟩ e => by rw [hv] at e; cases e⟩
end G
set_option Elab.async false
set_option linter.all false
set_option maxRecDepth 100000
set_option maxHeartbeats 2000000
namespace G
open PySem PySem.Spec PyProof.Rows L2 StX
/-- a dict that was not there at F -/
structure Yg (F : Hp) (β : Type) where
  l : List (Str × β)
instance {F : Hp} {β : Type} [Rep β] : Rep (Yg F β) where
  dn := fun W H v y => den W H v (Dc.mk y.l) ∧ ∃ p, v = .ref p ∧ F p = none
  mono := fun {W H H' v y} e h => ⟨Rep.mono (a := Dc.mk y.l) e h.1, h.2⟩
  grow := fun {W H v y} D n h => ⟨Rep.grow (a := Dc.mk y.l) D n h.1, h.2⟩
  shrink := fun {W H v y} D h => ⟨Rep.shrink (a := Dc.mk y.l) D h.1, h.2⟩
abbrev PFd (β : Type) := (List (Str × β) → Prop) → List Ty → Prop
def spFd {β : Type} [Rep β] (B : Bs) (P : PFd β) : Sp := fun vs H Q _ => ∃ (W : Wd) (ts : List Ty) (k : List (Str × β) → Prop), W.B = B ∧ W.ok H ∧ W.wish H ∧ DT W H vs ts ∧ P k ts ∧
  ∀ p H' kvs (ds : List (Str × β)), H p = none → Ext W H H' → H' p = some (.dK kvs) → Dk (den W.toWc H') kvs ds → k ds → Q (.ref p) H'
def EvFD {β : Type} [Rep β] (W : Wd) (te : TE) (Γ : Gam) (k : List (Str × β) → Prop) : Prop :=
  ∀ σ H (Q : VK), GOk W H σ Γ → (∀ p H' kvs (ds : List (Str × β)), H p = none → Ext W H H' → H' p = some (.dK kvs) → Dk (den (W.toWc.plus p) H') kvs ds → k ds → Q (.ref p) H') → te σ H Q
section
variable {W : Wd} {Γ : Gam} {ta : TA} {te : TE} {B : Bs} {β : Type} {rβ : Rep β} [Flat β] {P : PFd β} {E : XK}
theorem evFD_call {k : List (Str × β) → Prop} (hB : W.B = B) (h : EvA W ta Γ fun ts => P k ts) : EvFD W (tCallR (spFd B P) E ta) Γ k := by
  subst hB
  refine fun σ H Q G c => h σ H _ G fun vs H1 ts e1 d z => ⟨W, ts, k, rfl, e1.ok, (G.ext e1).wish, d, z, fun p H' kvs ds n e hp hk q => ?_⟩
  exact c p H' kvs ds (fresh_back e1.ok e1 n) (e1.trans e) hp hk.flat q
/-- and what it gives may be read alone -/
theorem EvFD.k {k : Dc β → Prop} (h : EvFD W te Γ fun ds => k ⟨ds⟩) : EvK W te Γ k := fun σ H Q G c => h σ H Q G fun p H' kvs ds n e hp hk q => c (.ref p) H' ⟨ds⟩ e ⟨p, kvs, rfl, ⟨fresh_mu G.ok n, hp⟩, hk.flat⟩ q
theorem sxh_newFD {F : Hp} {L : OwnH} {R : PoH} {i : Nat} (h : ∀ Wo, OwnHW W L Wo → EvFD Wo te Γ fun ds : List (Str × β) => ∀ p kvs, R.nx ((p, .dK kvs) :: L) (Γ.set i (some (T (Od.mk p kvs ds))))) : SxH W F (tAsg te (gName i)) L Γ R := fun D σ H oF nF wF nd G O =>
  h _ (ownH_w wF) σ H _ G fun p H1 kvs ds n e hp hb q => newH (T (Od.mk p kvs ds)) nd G O n e hp ⟨rfl, hb⟩ (q p kvs)
/-- return of an own dict -/
theorem sxh_retY {F : Hp} {L : OwnH} {R : PoH} {i : Nat} {p : Addr} {kvs : List (Key × V)} {ds : List (Str × β)} (hL : (p, HO.dK kvs) ∈ L) (hi : Γ[i]? = some (some (T (Od.mk p kvs ds)))) (q : R.rt (T (Yg.mk ds : Yg F β))) : SxH W F (tRet (tVar i)) L Γ R := fun D σ H oF nF wF nd G O => by
  obtain ⟨h1, h2⟩ := od_at G hi
  have nF' := nF p (List.mem_map.mpr ⟨_, hL, rfl⟩)
  exact ⟨.ref p, h1, O.rt (.ref p) H (T (Yg.mk ds : Yg F β)) ⟨G.wish, G.ok.1⟩ ⟨⟨p, kvs, rfl, ⟨fresh_mu oF nF', G.ok.2 _ hL⟩, h2.flat⟩, p, rfl, nF'⟩ q⟩
theorem fd_ok {t : TS} {N : List Str} {vs : List V} {H : Hp} {Q : VK} {E : XK}
    (hb : ∀ (W : Wd) ts k F, W.B = B → P k ts → SxH W F t [] (ts.map some ++ List.replicate (N.length - ts.length) none) { nx := fun _ _ => False, rt := fun t => ∃ ds, t = T (Yg.mk ds : Yg F β) ∧ k ds })
    (h : spFd B P vs H Q E) : t { nx := fun _ H' => Q .non H', rt := Q } (L2.start N vs) H := by
  obtain ⟨W, ts, k, hB, ho, hw, hd, hp, hq⟩ := h
  refine hb W ts k H hB hp _ _ H ho (fun _ z => nomatch z) hw .nil (ownH_gok_nil (fun _ _ _ z => z) (start_ok ho hw hd)) ⟨fun _ _ _ _ _ _ _ _ _ z => z.elim, fun v H' t e d ⟨ds, et, kd⟩ => ?_, fun _ _ _ _ _ _ _ _ _ z => z.elim, fun _ _ _ _ _ _ _ _ _ z => z.elim⟩
  subst et
  obtain ⟨⟨p, kvs, hv, ⟨m, hp2⟩, hk⟩, p', hv', hF⟩ := d
  rw [hv] at hv'
  cases hv'
  rw [hv]
  exact hq p H' kvs ds hF e hp2 hk kd
end
end G
set_option Elab.async false
set_option linter.all false
set_option maxRecDepth 100000
set_option maxHeartbeats 2000000
namespace G
open PySem PySem.Spec PyProof.Rows L2 StX
/-- a free place was free at F -/
def Mk (W : Wd) (F : Hp) : Prop := ∀ H p, W.ok H → W.wish H → H p = none → F p = none
theorem Mk.sub {W W' : Wd} {F : Hp} (m : Mk W F) (s : Sub W W') : Mk W' F := fun H p o w n => m H p (s.ok H o) (s.wish H o w) n
instance {F : Hp} {β : Type} [Rep β] : NotNon (Yg F β) := ⟨fun {W H v a} ⟨_, p, hv, _⟩ e => by rw [hv] at e; cases e⟩
section
variable {W : Wd} {F : Hp} {L : OwnH} {Γ : Gam} {ta : TA} {te ty tx : TE} {t : TS} {R : PoH} {B : Bs} {β : Type} {rβ : Rep β} {E : XK}
def EvYO {β : Type} [Rep β] (W : Wd) (te : TE) (Γ : Gam) (k : Option (List (Str × β)) → Prop) : Prop :=
  ∀ σ H (Q : VK), GOk W H σ Γ → (k none → ∀ H', Ext W H H' → Q .non H') → (∀ p H' kvs (ds : List (Str × β)), H p = none → Ext W H H' → H' p = some (.dK kvs) → Dk (den (W.toWc.plus p) H') kvs ds → k (some ds) → Q (.ref p) H') → te σ H Q
/-- and what it gives may be read alone -/
theorem EvYO.k [Flat β] {k : Option (Dc β) → Prop} (h : EvYO W te Γ fun o : Option (List (Str × β)) => k (o.map Dc.mk)) : EvK W te Γ k := fun σ H Q G c => h σ H Q G (fun q H' e => c .non H' none e rfl q)
  fun p H' kvs ds n e hp hk q => c (.ref p) H' (some ⟨ds⟩) e ⟨p, kvs, rfl, ⟨fresh_mu G.ok n, hp⟩, hk.flat⟩ q
end
end G
set_option Elab.async false
set_option linter.all false
set_option maxRecDepth 100000
set_option maxHeartbeats 2000000
namespace G
open PySem PySem.Spec PyProof.Rows L2 StX
def EvFO {β : Type} [FRep β] (W : Wd) (c : Cn) (te : TE) (Γ : Gam) (k : β → Prop) : Prop :=
  ∀ σ H (Q : VK), GOk W H σ Γ → (∀ p dx fs H' (b : β), H p = none → Ext W H H' → H' p = some (.ins (W.B.cl c) dx fs) → FRep.fd (W.toWc.plus p) H' fs b → k b → Q (.ref p) H') → te σ H Q
end G
set_option Elab.async false
set_option linter.all false
set_option maxRecDepth 100000
set_option maxHeartbeats 2000000
namespace G
open PySem PySem.Spec PyProof.Rows L2 StX
def rIdxI (K : PySem.W.Frag) : V → List V → Hp → VK → Prop := fun x xs H Q => ∃ p, ∃ (ns : List Int) (k : Int), x = .ref p ∧ xs = [.int k] ∧ SqL K H p (ns.map V.int) ∧ k ∈ ns ∧ Q (.int (ns.idxOf k : Nat)) H
section
variable {X : Cx}
theorem mt_idxI : MtR X "list.index" (rIdxI X.K) := by
  intro pins s σ H x xs v us Q I rx rs h
  obtain ⟨p, ns, k, rfl, rfl, hq, hk, q⟩ := h
  cases rx
  obtain ⟨u, rfl, t, rfl⟩ := vals1 rs
  obtain ⟨its, rv, hl, hz⟩ := I.list hq
  rw [List.length_map] at hz
  exact PySem.SeqAt.list_index_ints hl.isList rv.ints (Nat.le_trans hz (Nat.le_refl _)) hk ⟨.int _, H, I.tok _, ⟨_, rfl⟩, q⟩
end
section
variable {X : Cx} {o e : Expr} {es : List Expr} {to : TE} {t : TA} {apos pos : Pos}
theorem pe_idxIK (K : PySem.W.Frag) (ho : PE X o to) (ha : PA X (e :: es) t) (hK : X.K = K := by rfl)
    (hbase : attributeBase o "index" X.env (eval o X.env) = eval o X.env := by rfl)
    (hfew : ((backTo pos (starEach (e :: es) X.env)).all (fun x => !x.1) && (backToKw pos (keywordEach [] X.env)).all (fun x => x.1.isSome)
      && decide ((e :: es).length + ([] : List Keyword).length + (if ([] : List Keyword).isEmpty then 0 else 1) < 30)) = true := by rfl)
    (hline : (apos.endLine == pos.line) = true := by rfl) (hs : starEach (e :: es) X.env = (false, eval e X.env) :: starEach es X.env := by rfl) (hplain : (backTo pos (starEach es X.env)).any (·.1) = false := by rfl) :
    PE X (.Call (.Attribute o "index" apos) (e :: es) [] pos) (tBM K "list" (rIdxI K) to t) := by
  subst hK
  exact pe_bm PySem.F.plainAttrs_list PySem.F.slot_list_index PySem.F.type_list_index mt_idxI ho ha hbase hfew hline hs hplain
end
section
variable {W : Wd} {Γ : Gam} {te tb td : TE} {K : PySem.W.Frag}
theorem ev_idxI {k : Int → Prop} (hK : W.B.K = K) (h : EvK W te Γ fun as : List Int => EvK W tb Γ fun n : Int => n ∈ as ∧ k (as.idxOf n : Nat)) : EvK W (tBM K "list" (rIdxI K) te (tCons tb tNil)) Γ k := by
  subst hK
  refine fun σ H Q G c => h σ H _ G fun v H1 as e1 d1 h1 => ?_
  refine ⟨?_, h1 σ H1 _ (G.ext e1) fun u H2 n e2 d2 ⟨hm, z⟩ => ?_⟩
  · obtain ⟨p, vs, hv, hp, hd⟩ := d1
    rw [hv]
    exact .inl ⟨rfl, vs, hp.sq⟩
  · obtain ⟨p, vs, hv, hp, hd⟩ := Rep.mono (W := W.toWc) (a := as) e2.keep d1
    have d2 : u = .int n := d2
    refine ⟨p, as, n, hv, by rw [d2], ?_, hm, c _ H2 _ (e1.trans e2) rfl z⟩
    rw [← hd.ints]
    exact hp.sq
end
end G
set_option Elab.async false
set_option linter.all false
set_option maxRecDepth 100000
set_option maxHeartbeats 2000000
namespace PySem
open PySem.Spec PyProof.Rows Sem
end PySem
namespace G
open PySem PySem.Spec PyProof.Rows L2 StX
end G
namespace G
open PySem PySem.Spec PyProof.Rows L2 StX
end G
set_option Elab.async false
set_option linter.all false
set_option maxRecDepth 100000
set_option maxHeartbeats 2000000
namespace PySem
open PySem.Spec PyProof.Rows
end PySem
set_option Elab.async false
set_option linter.all false
set_option maxRecDepth 100000
set_option maxHeartbeats 2000000
namespace G
open PySem PySem.Spec PyProof.Rows L2 StX
end G
set_option Elab.async false
set_option linter.all false
set_option maxRecDepth 100000
set_option maxHeartbeats 2000000
namespace G
open PySem PySem.Spec PyProof.Rows L2 StX
def EtM (W : Wd) (F : Hp) (tt : TT) (L : OwnH) (Γ : Gam) (k : OwnH → Gam → Bool → Prop) : Prop :=
  ∀ σ H oF nF (Q : Bool → Hp → Prop), W.wish F → (keysH L).Nodup → GOk (W.ownH F L oF nF) H σ Γ → (∀ L' oF' nF' H' Γ' b, StpH W L H L' H' → (keysH L').Nodup → GOk (W.ownH F L' oF' nF') H' σ Γ' → k L' Γ' b → Q b H') → tt σ H Q
def EvM (W : Wd) (F : Hp) (te : TE) (L : OwnH) (Γ : Gam) (k : OwnH → Gam → Ty → Prop) : Prop :=
  ∀ σ H oF nF (Q : VK), W.wish F → (keysH L).Nodup → GOk (W.ownH F L oF nF) H σ Γ → (∀ L' oF' nF' H' Γ' v (t : Ty), StpH W L H L' H' → (keysH L').Nodup → GOk (W.ownH F L' oF' nF') H' σ Γ' → t.den (W.ownH F L' oF' nF').toWc H' v → k L' Γ' t → Q v H') → te σ H Q
section
variable {W : Wd} {F : Hp} {L : OwnH} {Γ : Gam} {R : PoH} {ta : TA} {te : TE} {tt tu : TT} {t u : TS} {B : Bs} {k : OwnH → Gam → Bool → Prop}
theorem sxh_ifM (h : EtM W F tt L Γ fun L' Γ' b => (b = true → SxH W F t L' Γ' R) ∧ (b = false → SxH W F u L' Γ' R)) : SxH W F (tIfS tt t u) L Γ R := fun D σ H oF nF wF nd G O =>
  h σ H oF nF _ wF nd G fun L' oF' nF' H' Γ' b s nd' G' ⟨h1, h2⟩ => by
    cases b with
    | true => exact h1 rfl D σ H' oF' nF' wF nd' G' (O.step G'.ok.1 s)
    | false => exact h2 rfl D σ H' oF' nF' wF nd' G' (O.step G'.ok.1 s)
/-- f(..) is not None, where f gives None -/
theorem etm_notN (h : EvM W F te L Γ fun L' Γ' t => t = T () ∧ k L' Γ' false) : EtM W F (tTest (tOp (fun x y H Q => y = .non ∧ Q (.bl (!decide (x = .non))) H) te (tC .non))) L Γ k := fun σ H oF nF Q wF nd G c =>
  h σ H oF nF _ wF nd G fun L' oF' nF' H' Γ' v t s nd' G' d ⟨et, q⟩ => by
    subst et
    have d : v = .non := d
    subst d
    exact ⟨rfl, false, rfl, c L' oF' nF' H' Γ' false s nd' G' q⟩
end
end G
set_option Elab.async false
set_option linter.all false
set_option maxRecDepth 100000
set_option maxHeartbeats 2000000
namespace G
open PySem PySem.Spec PyProof.Rows L2 StX
section
variable {W W0 : Wd} {Γ : Gam} {te : TE} {B : Bs} {E : L2.St → XK} {C : Addr} {K : PySem.W.Frag}
/-- the new object read as data -/
theorem EvFO.k {α β : Type} {rα : Rep α} {fβ : FRep β} {cn : Cn} {kd : α → Prop} (mk : β → α) (good : β → Prop) (hden : ∀ (W' : Wc) (H : Hp) (p dx : Addr) (fs : List (Str × V)) (b : β), W'.B = W.B → ¬ W'.mu p → H p = some (.ins (W.B.cl cn) dx fs) → FRep.fd W' H fs b → good b → den W' H (.ref p) (mk b)) (h : EvFO W cn te Γ fun b => good b ∧ kd (mk b)) : EvK W te Γ kd := fun σ H Q G c =>
  h σ H Q G fun p dx fs H' b n e hp hf q => c (.ref p) H' (mk b) e (hden W.toWc H' p dx fs b rfl (fresh_mu G.ok n) hp (FRep.shrink p hf) q.1) q.2
end
end G
set_option Elab.async false
set_option linter.all false
set_option maxRecDepth 100000
set_option maxHeartbeats 2000000
namespace G
open PySem PySem.Spec PyProof.Rows L2 StX
theorem sorted_cnt {bs : List Int} (h : bs.Pairwise (· ≤ ·)) {k : Nat} {v : Int} (hv : bs[k]? = some v) : bs.countP (fun x => decide (x < v)) ≤ k ∧ k < bs.countP (fun x => decide (x ≤ v)) := by
  induction bs generalizing k with
  | nil => cases hv
  | cons x xs ih =>
    rw [List.pairwise_cons] at h
    rw [List.countP_cons, List.countP_cons]
    cases k with
    | zero =>
      have e : x = v := Option.some.inj hv
      subst e
      have h1 : xs.countP (fun y => decide (y < x)) = 0 := List.countP_eq_zero.mpr fun y hy z => by
        have := h.1 y hy
        have := of_decide_eq_true z
        omega
      rw [h1, if_neg (by simp), if_pos (by simp)]
      omega
    | succ k =>
      have hv' : xs[k]? = some v := hv
      obtain ⟨h1, h2⟩ := ih h.2 hv'
      have hx : x ≤ v := h.1 v (List.mem_of_getElem? hv')
      rw [if_pos (decide_eq_true hx)]
      split <;> omega
theorem sorted_med {bs : List Int} (h : bs.Pairwise (· ≤ ·)) {k : Nat} {v : Int} (h1 : bs.countP (fun x => decide (x < v)) ≤ k) (h2 : k < bs.countP (fun x => decide (x ≤ v))) : bs[k]? = some v := by
  have hk : k < bs.length := Nat.lt_of_lt_of_le h2 List.countP_le_length
  have hg := List.getElem?_eq_getElem hk
  obtain ⟨g1, g2⟩ := sorted_cnt h hg
  rw [hg]
  congr 1
  apply Int.le_antisymm
  · apply Int.not_lt.mp
    intro z
    have := List.countP_mono_left (l := bs) (p := fun x => decide (x ≤ v)) (q := fun x => decide (x < bs[k])) fun x _ y => by
      have := of_decide_eq_true y
      exact decide_eq_true (by omega)
    omega
  · apply Int.not_lt.mp
    intro z
    have := List.countP_mono_left (l := bs) (p := fun x => decide (x ≤ bs[k])) (q := fun x => decide (x < v)) fun x _ y => by
      have := of_decide_eq_true y
      exact decide_eq_true (by omega)
    omega
/-- the lower middle of the readings -/
def MedZ (ns : List Str) (r : Str → Int) (med : Int) : Prop := ∃ bs : List Int, bs.Perm (ns.map r) ∧ bs.Pairwise (· ≤ ·) ∧ bs[(ns.length - 1) / 2]? = some med
theorem sort_some (l : List Int) : ∃ bs : List Int, bs.Perm l ∧ bs.Pairwise (· ≤ ·) :=
  ⟨l.mergeSort (fun a b => decide (a ≤ b)), List.mergeSort_perm _ _, (List.pairwise_mergeSort (le := fun a b : Int => decide (a ≤ b)) (fun a b c h1 h2 => decide_eq_true (Int.le_trans (of_decide_eq_true h1) (of_decide_eq_true h2))) (fun a b => by rcases Int.le_total a b with h | h <;> simp [h]) l).imp fun h => of_decide_eq_true h⟩
theorem MedZ.tr {ns : List Str} {r r' : Str → Int} {v v' : Int} (h : MedZ ns r v) (h1 : ∀ m ∈ ns, r' m < v' → r m < v) (h2 : ∀ m ∈ ns, r m ≤ v → r' m ≤ v') : MedZ ns r' v' := by
  obtain ⟨bs, hp, hs, hm⟩ := h
  obtain ⟨cs, hp', hs'⟩ := sort_some (ns.map r')
  obtain ⟨g1, g2⟩ := sorted_cnt hs hm
  rw [hp.countP_eq, List.countP_map] at g1 g2
  refine ⟨cs, hp', hs', sorted_med hs' ?_ ?_⟩
  · rw [hp'.countP_eq, List.countP_map]
    refine Nat.le_trans (List.countP_mono_left fun m hm z => ?_) g1
    exact decide_eq_true (h1 m hm (of_decide_eq_true z))
  · rw [hp'.countP_eq, List.countP_map]
    refine Nat.lt_of_lt_of_le g2 (List.countP_mono_left fun m hm z => ?_)
    exact decide_eq_true (h2 m hm (of_decide_eq_true z))
theorem idx_lt {l : List Int} {a : Int} {j : Nat} (h : j < l.idxOf a) : l[j]? ≠ some a := by
  induction l generalizing j with
  | nil => cases h
  | cons x xs ih =>
    rw [List.idxOf_cons] at h
    by_cases e : x = a
    · rw [e] at h
      simp at h
    · rw [show (x == a) = false from beq_false_of_ne e] at h
      cases j with
      | zero => exact fun z => e (Option.some.inj z)
      | succ j => exact ih (Nat.lt_of_succ_lt_succ h)
theorem idx_eq {l : List Int} {a : Int} {i : Nat} (h : l[i]? = some a) (hj : ∀ j, j < i → l[j]? ≠ some a) : l.idxOf a = i := by
  rcases Nat.lt_trichotomy (l.idxOf a) i with z | z | z
  · refine absurd ?_ (hj _ z)
    have hm : a ∈ l := List.mem_of_getElem? h
    have := List.idxOf_lt_length_of_mem hm
    rw [List.getElem?_eq_getElem this, List.getElem_idxOf]
  · exact z
  · exact absurd h (idx_lt z)
/-- the middle is 0, and n is the first that lies farthest from it -/
structure FstZ (ns : List Str) (r : Str → Int) (n : Str) : Prop where
  med : MedZ ns r 0
  mem : n ∈ ns
  ub : ∀ m ∈ ns, (r m).natAbs ≤ (r n).natAbs
  fst : ∃ i : Nat, ns[i]? = some n ∧ ∀ j : Nat, j < i → ∀ m, ns[j]? = some m → (r m).natAbs < (r n).natAbs
theorem FstZ.tr {ns : List Str} {r r' : Str → Int} {n : Str} (h : FstZ ns r n) (h1 : ∀ m ∈ ns, r' m < 0 → r m < 0) (h2 : ∀ m ∈ ns, 0 < r' m → 0 < r m) (h3 : ∀ m ∈ ns, ((r m).natAbs ≤ (r n).natAbs → (r' m).natAbs ≤ (r' n).natAbs) ∧ ((r m).natAbs < (r n).natAbs → (r' m).natAbs < (r' n).natAbs)) : FstZ ns r' n := by
  obtain ⟨i, hi, hf⟩ := h.fst
  exact ⟨h.med.tr h1 (fun m hm z => Int.not_lt.mp fun y => by have := h2 m hm y; omega), h.mem, fun m hm => (h3 m hm).1 (h.ub m hm), i, hi, fun j hj m hm => (h3 m (List.mem_of_getElem? hm)).2 (hf j hj m hm)⟩
end G
set_option Elab.async false
set_option linter.all false
set_option maxRecDepth 100000
set_option maxHeartbeats 2000000
namespace G
open PySem PySem.Spec PyProof.Rows L2 StX
abbrev Cells (β : Type) := β → OwnH
abbrev cellsO {β : Type} (B : Bs) (cs : Cells β) (M : OwnH) (p dx : Addr) (c : Cn) (fs : List (Str × V)) (b : β) : OwnH := cs b ++ (p, .ins (B.cl c) dx fs) :: M
theorem plusL_app {W : Wc} : ∀ {a b : List Addr}, W.plusL (a ++ b) = (W.plusL b).plusL a
  | [], _ => rfl
  | x :: r, b => by
    show (W.plusL (r ++ b)).plus x = ((W.plusL b).plusL r).plus x
    rw [plusL_app]
abbrev PMx (β : Type) := Cn → β → (β → Ty → Prop) → List Ty → Prop
def spMx {β : Type} [FRep β] (cs : Cells β) (B : Bs) (P : PMx β) : Sp := fun vs H Q _ => ∃ (W : Wd) (F : Hp) (M : OwnH) (p dx : Addr) (c : Cn) (fs0 : List (Str × V)) (b0 : β) (ws : List V) (ts : List Ty) (k : β → Ty → Prop) (oF : W.ok F) (nF : ∀ q ∈ keysH (cellsO B cs M p dx c fs0 b0), F q = none),
  vs = .ref p :: ws ∧ W.B = B ∧ W.wish F ∧ (keysH (cellsO B cs M p dx c fs0 b0)).Nodup ∧ (W.ownH F (cellsO B cs M p dx c fs0 b0) oF nF).ok H ∧ Kp W.toWc F H ∧ FRep.fd (W.toWc.plusL (keysH (cellsO B cs M p dx c fs0 b0))) H fs0 b0 ∧ DT (W.toWc.plusL (keysH (cellsO B cs M p dx c fs0 b0))) H ws ts ∧ P c b0 k ts ∧
  ∀ v H' fs b (t : Ty), keysH (cs b) = keysH (cs b0) → Kp (W.toWc.plusL (keysH (cellsO B cs M p dx c fs0 b0))) H H' → W.ok H' → (∀ y ∈ cellsO B cs M p dx c fs b, H' y.1 = some y.2) → FRep.fd (W.toWc.plusL (keysH (cellsO B cs M p dx c fs0 b0))) H' fs b → t.den (W.toWc.plusL (keysH (cellsO B cs M p dx c fs0 b0))) H' v → k b t → Q v H'
theorem keysO {β : Type} {B : Bs} {cs : Cells β} {M : OwnH} {p dx : Addr} {c : Cn} {fs fs' : List (Str × V)} {b b' : β} (h : keysH (cs b') = keysH (cs b)) : keysH (cellsO B cs M p dx c fs' b') = keysH (cellsO B cs M p dx c fs b) := by
  show (cs b' ++ _).map (·.1) = (cs b ++ _).map (·.1)
  rw [List.map_append, List.map_append]
  exact congrArg (· ++ _) h
theorem mx_ok4 {α β : Type} {rα : Rep α} [FRep β] {cs : Cells β} {B : Bs} {P : PMx β} {s1 s2 s3 s4 : TS} {te : TE} {N : List Str} {vs : List V} {H : Hp} {Q : VK} {E : XK}
    (hb : ∀ (W : Wd) F M p dx c fs0 b0 ts k, W.B = B → P c b0 k ts →
      SxH W F (tSeq s1 (tSeq s2 (tSeq s3 s4))) (cellsO W.B cs M p dx c fs0 b0) (some (T (Oi.mk p c dx fs0 b0)) :: (ts.map some ++ List.replicate (N.length - (ts.length + 1)) none)) { nx := fun L Γ => ∃ fs b, keysH (cs b) = keysH (cs b0) ∧ L = cellsO W.B cs M p dx c fs b ∧ Γ[0]? = some (some (T (Oi.mk p c dx fs b))) ∧ ∀ oF nF, W.wish F → EvK (W.ownH F L oF nF) te Γ fun a : α => k b (T a), rt := fun _ => False })
    (h : spMx cs B P vs H Q E) : tSeq s1 (tSeq s2 (tSeq s3 (tSeq s4 (tRet te)))) { nx := fun _ H' => Q .non H', rt := Q } (L2.start N vs) H := by
  obtain ⟨W, F, M, p, dx, c, fs0, b0, ws, ts, k, oF, nF, rfl, hB, wF, nd, ho, hw, hf, hd, hp, hq⟩ := h
  subst hB
  show (tSeq s1 (tSeq s2 (tSeq s3 s4))) { nx := fun σ' H' => te σ' H' Q, rt := Q } (L2.start N (.ref p :: ws)) H
  refine hb W F M p dx c fs0 b0 ts k rfl hp _ _ H oF nF wF nd ?_ ?_
  · have hd' : DT (W.ownH F (cellsO W.B cs M p dx c fs0 b0) oF nF).toWc H (.ref p :: ws) (T (Oi.mk p c dx fs0 b0) :: ts) := .cons (t := T (Oi.mk p c dx fs0 b0)) ⟨rfl, hf⟩ hd
    have := start_ok (N := N) ho hw hd'
    exact this
  · refine ⟨fun L' oF' nF2 σ' H' Γ' s nd' G ⟨fs, b, hkey, hL, hG, hev⟩ => ?_, fun v H' t e d z => z.elim, fun _ _ _ _ _ _ _ _ _ z => z.elim, fun _ _ _ _ _ _ _ _ _ z => z.elim⟩
    subst hL
    have hk2 := keysO (B := W.B) (M := M) (p := p) (dx := dx) (c := c) (fs := fs0) (fs' := fs) hkey
    refine hev oF' nF2 wF σ' H' Q G fun v H2 a e d q => ?_
    obtain ⟨_, h2⟩ := oi_at (G.ext e) hG
    refine hq v H2 fs b (T a) hkey (fun x u m z => e.keep x u ?_ (s.1 x u m z)) e.ok.1 e.ok.2 ?_ ?_ q
    · show ¬ (W.toWc.plusL (keysH (cellsO W.B cs M p dx c fs b))).mu x
      rw [hk2]
      exact m
    · rw [← hk2]
      exact h2
    · rw [← hk2]
      exact d
section
variable {W : Wd} {F : Hp} {L : OwnH} {Γ : Gam} {R : PoH} {ta : TA} {te tb : TE} {tt tu : TT} {B : Bs} {K : PySem.W.Frag}
/-- x != e, where x changes own things and is a number -/
theorem etm_neI {k : OwnH → Gam → Bool → Prop} (hK : W.B.K = K) (h : EvM W F te L Γ fun L' Γ' t => ∃ n : Int, t = T n ∧ ∀ Wo, OwnHW W L' Wo → EvK Wo tb Γ' fun m : Int => k L' Γ' (!decide (n = m))) : EtM W F (tTest (tOp (rNeD K) te tb)) L Γ k := by
  subst hK
  refine fun σ H oF nF Q wF nd G cc => h σ H oF nF _ wF nd G fun L' oF' nF' H' Γ' v t s nd' G' d ⟨n, et, q⟩ => ?_
  subst et
  refine q _ (ownH_w wF) σ H' _ G' fun w H2 m e dm z => ?_
  have d : v = .int n := d
  have dm : w = .int m := dm
  subst d dm
  have hd1 : den (W.toWc.plusL (keysH L')) H2 (.int n) n := rfl
  have hd2 : den (W.toWc.plusL (keysH L')) H2 (.int m) m := rfl
  refine ⟨Dat.toD n, Dat.toD m, Dat.dp hd1, Dat.dp hd2, shaped_of (α := Int) trivial (by decide), shaped_of (α := Int) trivial (by decide), _, rfl, ?_⟩
  show Q (!PyData.eqv (Dat.toD n) (Dat.toD m)) H2
  rw [eqv_dec]
  exact cc L' oF' nF' H2 Γ' _ (s.trans G'.ok.1 (ownH_stp e)) nd' (G'.ext e) z
end
def spIx {β : Type} [FRep β] (cs : Cells β) (B : Bs) (P : PI β) : Sp := fun vs H Q E => ∃ (W : Wd) (F : Hp) (p dx : Addr) (c : Cn) (ws : List V) (ts : List Ty) (k : β → Prop) (x : Xn → Prop) (oF : W.ok F) (nF : ∀ q ∈ keysH [(p, HO.ins (B.cl c) dx [])], F q = none),
  vs = .ref p :: ws ∧ W.B = B ∧ XOk W F E x ∧ (W.ownH F [(p, .ins (B.cl c) dx [])] oF nF).ok H ∧ Kp W.toWc F H ∧ DT (W.toWc.plus p) H ws ts ∧ P c k x ts ∧
  ∀ H' fs b, StpH W [(p, .ins (B.cl c) dx [])] H (cellsO B cs [] p dx c fs b) H' → (keysH (cellsO B cs [] p dx c fs b)).Nodup → W.ok H' → (∀ y ∈ cellsO B cs [] p dx c fs b, H' y.1 = some y.2) → FRep.fd (W.toWc.plusL (keysH (cellsO B cs [] p dx c fs b))) H' fs b → k b → Q .non H'
theorem init_okx {β : Type} [FRep β] {cs : Cells β} {B : Bs} {P : PI β} {t : TS} {N : List Str} {vs : List V} {H : Hp} {Q : VK} {E : XK}
    (hb : ∀ (W : Wd) F p dx c ts k x, W.B = B → (∀ H', W.ok H' → W.wish H' → XOk W H' E x) → P c k x ts →
      SxH W F t [(p, .ins (W.B.cl c) dx [])] (some (T (Oi.mk p c dx [] ())) :: (ts.map some ++ List.replicate (N.length - (ts.length + 1)) none)) { nx := fun L Γ => ∃ fs b, L = cellsO W.B cs [] p dx c fs b ∧ Γ[0]? = some (some (T (Oi.mk p c dx fs b))) ∧ k b, rt := fun _ => False })
    (h : spIx cs B P vs H Q E) : t { nx := fun _ H' => Q .non H', rt := Q } (L2.start N vs) H := by
  obtain ⟨W, F, p, dx, c, ws, ts, k, x, oF, nF, rfl, hB, hx, ho, hw, hd, hp, hq⟩ := h
  subst hB
  have nF' : ∀ q ∈ keysH [(p, HO.ins ((W.wth E x).B.cl c) dx [])], F q = none := nF
  have ho' : ((W.wth E x).ownH F [(p, .ins ((W.wth E x).B.cl c) dx [])] oF nF').ok H := ho
  refine hb (W.wth E x) F p dx c ts k x rfl (fun H' _ w n d2 H2 e z q => w n d2 H2 e.wth z q) hp _ _ H oF nF' hx (List.nodup_cons.mpr ⟨fun z => (nomatch z), .nil⟩) ?_ ?_
  · have hd' : DT ((W.wth E x).ownH F [(p, .ins ((W.wth E x).B.cl c) dx [])] oF nF').toWc H (.ref p :: ws) (T (Oi.mk p c dx [] ()) :: ts) := .cons (t := T (Oi.mk p c dx [] ())) ⟨rfl, rfl⟩ hd
    have := start_ok (N := N) ho' hw hd'
    exact this
  · refine ⟨fun L' oF' nF2 σ' H' Γ' s nd' G ⟨fs, b, hL, hG, kb⟩ => ?_, fun v H' t e d z => z.elim, fun _ _ _ _ _ _ _ _ _ z => z.elim, fun _ _ _ _ _ _ _ _ _ z => z.elim⟩
    subst hL
    obtain ⟨_, h2⟩ := oi_at G hG
    exact hq H' fs b s nd' G.ok.1 G.ok.2 h2 kb
def EvFX {β : Type} [FRep β] (cs : Cells β) (W : Wd) (c : Cn) (te : TE) (Γ : Gam) (k : β → Prop) : Prop :=
  ∀ σ H (Q : VK), GOk W H σ Γ → (∀ p dx fs H' (b : β), (∀ a ∈ keysH (cellsO W.B cs [] p dx c fs b), H a = none) → (keysH (cellsO W.B cs [] p dx c fs b)).Nodup → Ext W H H' → (∀ y ∈ cellsO W.B cs [] p dx c fs b, H' y.1 = some y.2) →
    FRep.fd (W.toWc.plusL (keysH (cellsO W.B cs [] p dx c fs b))) H' fs b → k b → Q (.ref p) H') → te σ H Q
section
variable {W : Wd} {F : Hp} {L : OwnH} {Γ : Gam} {R : PoH} {ta : TA} {te : TE} {B : Bs} {K : PySem.W.Frag}
theorem evFX_make {β : Type} {fβ : FRep β} {cs : Cells β} {P : PI β} {E : L2.St → XK} {x : Xn → Prop} {k : β → Prop} {c : Cn} {C : Addr} (hB : W.B = B) (hC : B.cl c = C) (hx : HX W Γ E x)
    (h : EvA W ta Γ fun ts => P c k x ts) : EvFX cs W c (tMakeZ C (spIx cs B P) E ta) Γ k := by
  subst hB
  subst hC
  refine fun σ H Q G cc => h σ H _ G fun vs H1 ts e1 d z xx dx nx ndx nex => ?_
  have e3 : Ext W H1 (upd (upd H1 dx (.own xx)) xx (.ins (W.B.cl c) dx [])) := ⟨fun a u _ q => by rw [upd_ne (ne_of_none q nx), upd_ne (ne_of_none q ndx)]; exact q, W.st _ _ _ (W.st _ _ _ e1.ok (fresh_mu e1.ok ndx)) (fresh_mu e1.ok nx)⟩
  refine ⟨W, H1, xx, dx, c, vs, ts, _, x, e1.ok, fun q hq => by rw [List.mem_singleton.mp hq]; exact nx, rfl, rfl, hx σ H1 (G.ext e1), ⟨e3.ok, fun y hy => ?_⟩, e3.keep, ?_, z, fun H' fs b s nd ok' hH hf kb => ⟨rfl, ?_⟩⟩
  · rw [List.mem_singleton.mp hy]
    exact upd_same
  · refine (dt_grow nx d).mono fun a u m q => ?_
    rw [upd_ne (ne_of_none q nx), upd_ne (ne_of_none q ndx)]
    exact q
  · have hback : ∀ a : Addr, (upd (upd H1 dx (.own xx)) xx (.ins (W.B.cl c) dx [])) a = none → H1 a = none := fun a ha => fresh_back e3.ok e3 ha
    refine cc xx dx fs H' b (fun a ha => ?_) nd (e1.trans ⟨fun a u m q => s.1 a u (fun z => ?_) (e3.keep a u m q), ok'⟩) hH hf kb
    · refine fresh_back e1.ok e1 ?_
      rcases s.2 a ha with q | q
      · rw [List.mem_singleton.mp q]
        exact nx
      · exact hback a q
    · rcases plusL_mu.mp z with z | z
      · exact m z
      · rw [List.mem_singleton.mp z] at q
        rw [nx] at q
        cases q
theorem sxh_newFX {β : Type} {fβ : FRep β} {cs : Cells β} {c : Cn} {i : Nat} (h : ∀ Wo, OwnHW W L Wo → EvFX cs Wo c te Γ fun b : β => ∀ p dx fs, R.nx (cellsO W.B cs [] p dx c fs b ++ L) (Γ.set i (some (T (Oi.mk p c dx fs b))))) : SxH W F (tAsg te (gName i)) L Γ R := fun D σ H oF nF wF nd G O =>
  h _ (ownH_w wF) σ H _ G fun p dx fs H1 b n ndN e hp hb q => by
    have hB : (W.ownH F L oF nF).B = W.B := plusL_B
    rw [hB] at hp ndN n hb
    refine newHs (cellsO W.B cs [] p dx c fs b) (.ref p) (T (Oi.mk p c dx fs b)) nd G O n ndN e hp ⟨rfl, ?_⟩ (q p dx fs)
    show FRep.fd (W.toWc.plusL (keysH (cellsO W.B cs [] p dx c fs b ++ L))) H1 fs b
    rw [show keysH (cellsO W.B cs [] p dx c fs b ++ L) = keysH (cellsO W.B cs [] p dx c fs b) ++ keysH L from List.map_append, plusL_app]
    exact hb
/-- self.f.append(e), f the last field of an own object and an own list -/
theorem sxh_appendT {α β : Type} {rα : Rep α} {fβ : FRep β} {f : Str} {i : Nat} (n k : Nat) {p dx q : Addr} {c : Cn} {fs : List (Str × V)} {vs : List V} {as : List α} {b : β} (hK : W.B.K = K) (hc : L2.Cls K (W.B.cl c)) (hn : NoAttr K (W.B.cl c) f) (hm : f ∉ FRep.nms b)
    (hp : L[n]? = some (p, .ins (W.B.cl c) dx fs)) (hk : L[k]? = some (q, .lst vs)) (hi : Γ[i]? = some (some (T (Oi.mk p c dx fs ((⟨f, ⟨q, vs, as⟩⟩, b) : Fd (Ol α) × β)))))
    (h : ∀ Wo, OwnHW W L Wo → EvK Wo te Γ fun a : α => as.length < 100000 ∧ ∀ v, R.nx (L.set k (q, .lst (vs ++ [v]))) (Γ.set i (some (T (Oi.mk p c dx fs ((⟨f, ⟨q, vs ++ [v], as ++ [a]⟩⟩, b) : Fd (Ol α) × β)))))) :
    SxH W F (tDrop (tBM K "list" rAppend (tFld K (tVar i) f) (tCons te tNil))) L Γ R := fun D σ H oF nF wF nd G O => by
  subst hK
  obtain ⟨h1, h2⟩ := oi_at G hi
  obtain ⟨w, r, hfs, ⟨hw, hd⟩, hr⟩ := h2
  have hw : w = .ref q := hw
  subst hw
  have hfs : fs = r ++ [(f, .ref q)] := hfs
  have hH := G.ok.2 _ (List.mem_of_getElem? hp)
  have hr' : FRep.fd (W.ownH F L oF nF).toWc H r b := hr
  refine ⟨_, h1, p, _, dx, fs, .ref q, rfl, hH, hc, hn, by rw [hfs]; exact look_last (by rw [FRep.nm hr']; exact hm), ?_⟩
  refine ⟨.inl ⟨rfl, _, .inl (.inl (G.ok.2 _ (List.mem_of_getElem? hk)))⟩, ?_⟩
  refine h _ (ownH_w wF) σ H _ G fun v H1 a e1 d ⟨hl, z⟩ => ?_
  have G1 := G.ext e1
  refine ⟨q, vs, v, rfl, rfl, G1.ok.2 _ (List.mem_of_getElem? hk), Nat.lt_of_lt_of_le (by rw [hd.length]; exact hl) (by decide : 100000 ≤ sizeLine), ?_⟩
  refine ownH_put (v0 := .ref p) (T (Oi.mk p c dx fs ((⟨f, ⟨q, vs ++ [v], as ++ [a]⟩⟩, b) : Fd (Ol α) × β))) nd G1 (O.step G1.ok.1 (ownH_stp e1)) hk h1 (fun kp => ⟨rfl, .ref q, r, hfs, ⟨rfl, ?_⟩, FRep.mono kp (FRep.mono e1.keep hr')⟩) (z v)
  exact (Dl.append (hd.imp fun _ _ x => Rep.mono e1.keep x) (.cons d .nil)).imp fun _ _ x => Rep.mono kp x
end
end G
namespace G
open PySem PySem.Spec PyProof.Rows L2 StX
structure KpT (B : Bs) : Prop where
  cl : L2.Cls B.K (B.cl .Keeper)
  nl : NoAttr B.K (B.cl .Keeper) "_limit"
  nk : NoAttr B.K (B.cl .Keeper) "_kept"
  nd : NoAttr B.K (B.cl .Keeper) "_dropped"
/-- a keeper as data -/
structure Kd where
  lim : Int
  ks : List Str
  gone : List Str
instance : Rep Kd :=
  ⟨fun W H v r => ∃ a dx w u, v = .ref a ∧ ¬ W.mu a ∧ H a = some (.ins (W.B.cl .Keeper) dx [("_limit", .int r.lim), ("_kept", w), ("_dropped", u)]) ∧ den W H w r.ks ∧ den W H u r.gone ∧ KpT W.B,
   fun {W H H' v r} e ⟨a, dx, w, u, hv, m, h, h1, h3, h2⟩ => ⟨a, dx, w, u, hv, m, e _ _ m h, Rep.mono (a := r.ks) e h1, Rep.mono (a := r.gone) e h3, h2⟩,
   fun {W H v r} D n ⟨a, dx, w, u, hv, m, h, h1, h3, h2⟩ => ⟨a, dx, w, u, hv, mu_grow n m h, h, Rep.grow (a := r.ks) D n h1, Rep.grow (a := r.gone) D n h3, h2⟩,
   fun {W H v r} D ⟨a, dx, w, u, hv, m, h, h1, h3, h2⟩ => ⟨a, dx, w, u, hv, fun z => m (.inl z), h, Rep.shrink (a := r.ks) D h1, Rep.shrink (a := r.gone) D h3, h2⟩⟩
instance : Ins Kd .Keeper ["_limit", "_kept", "_dropped"] := ⟨fun ⟨a, dx, w, u, hv, m, h, _⟩ => ⟨a, dx, _, hv, m, h, rfl⟩⟩
section
variable {W : Wd} {Γ : Gam} {te : TE} {K : PySem.W.Frag}
theorem ev_klim {k : Int → Prop} (hK : W.B.K = K) (h : EvK W te Γ fun r : Kd => k r.lim) : EvK W (tFld K te "_limit") Γ k := by
  subst hK
  refine fun σ H Q E c => h σ H _ E fun v H1 r e1 ⟨a, dx, w, u, hv, m, hH, hw, hu, hT⟩ z => ?_
  exact ⟨a, _, dx, _, .int r.lim, hv, hH, hT.cl, hT.nl, by simp [List.lookup], c _ H1 _ e1 rfl z⟩
theorem ev_kkept {k : List Str → Prop} (hK : W.B.K = K) (h : EvK W te Γ fun r : Kd => k r.ks) : EvK W (tFld K te "_kept") Γ k := by
  subst hK
  refine fun σ H Q E c => h σ H _ E fun v H1 r e1 ⟨a, dx, w, u, hv, m, hH, hw, hu, hT⟩ z => ?_
  have hne : (("_kept" : Str) == "_limit") = false := by decide +kernel
  exact ⟨a, _, dx, _, w, hv, hH, hT.cl, hT.nk, by simp [List.lookup, hne], c w H1 _ e1 hw z⟩
theorem ev_kgone {k : List Str → Prop} (hK : W.B.K = K) (h : EvK W te Γ fun r : Kd => k r.gone) : EvK W (tFld K te "_dropped") Γ k := by
  subst hK
  refine fun σ H Q E c => h σ H _ E fun v H1 r e1 ⟨a, dx, w, u, hv, m, hH, hw, hu, hT⟩ z => ?_
  have hne : (("_dropped" : Str) == "_limit") = false := by decide +kernel
  have hne2 : (("_dropped" : Str) == "_kept") = false := by decide +kernel
  exact ⟨a, _, dx, _, u, hv, hH, hT.cl, hT.nd, by simp [List.lookup, hne, hne2], c u H1 _ e1 hu z⟩
end
abbrev KB := Fd (Ol Str) × Fd (List Str) × Fd Int × Unit
def kpB (lim : Int) (ks : List Str) (q : Addr) (us : List V) (gone : List Str) : KB := (⟨"_dropped", ⟨q, us, gone⟩⟩, ⟨"_kept", ks⟩, ⟨"_limit", lim⟩, ())
def kpC : Cells KB := fun b => [(b.1.a.p, .lst b.1.a.vs)]
theorem kp_fs {W : Wc} {H : Hp} {fs : List (Str × V)} {lim : Int} {ks : List Str} {q : Addr} {us : List V} {gone : List Str} (h : FRep.fd W H fs (kpB lim ks q us gone)) : ∃ w, fs = ([("_limit", .int lim), ("_kept", w), ("_dropped", .ref q)] : List (Str × V)) ∧ den W H w ks ∧ Dl (den W H) us gone := by
  obtain ⟨v, r, h1, ⟨h2, h3⟩, v2, r2, h4, h5, v3, r3, h6, h7, h8⟩ := h
  have h8 : r3 = [] := h8
  subst h8
  have h7 : v3 = .int lim := h7
  subst h7
  have h6 : r2 = [(("_limit" : Str), V.int lim)] := h6
  subst h6
  have h4 : r = [(("_limit" : Str), V.int lim), (("_kept" : Str), v2)] := h4
  subst h4
  have h2 : v = .ref q := h2
  subst h2
  exact ⟨v2, h1, h5, h3⟩
theorem kp_of {W : Wc} {H : Hp} {lim : Int} {ks : List Str} {q : Addr} {us : List V} {gone : List Str} {w : V} (h5 : den W H w ks) (h3 : Dl (den W H) us gone) : FRep.fd W H [("_limit", .int lim), ("_kept", w), ("_dropped", .ref q)] (kpB lim ks q us gone) :=
  ⟨.ref q, [("_limit", .int lim), ("_kept", w)], rfl, ⟨rfl, h3⟩, w, [("_limit", .int lim)], rfl, h5, .int lim, [], rfl, rfl, rfl⟩
theorem kp_look {B : Bs} {L : OwnH} {p dx q : Addr} {fs : List (Str × V)} {us : List V} {lim : Int} {ks gone : List Str} (hT : KpT B) (hp : (p, HO.ins (B.cl .Keeper) dx fs) ∈ L) (hq : (q, HO.lst us) ∈ L) (W : Wc) (H : Hp) (hB : W.B = B) (pin : ∀ x ∈ L, ¬ W.mu x.1 ∧ H x.1 = some x.2)
    (h : FRep.fd W H fs (kpB lim ks q us gone)) : den W H (.ref p) (Kd.mk lim ks gone) := by
  subst hB
  obtain ⟨w, hfs, h5, h3⟩ := kp_fs h
  obtain ⟨m1, h1⟩ := pin _ hp
  obtain ⟨m2, h2⟩ := pin _ hq
  have h1 : H p = some (.ins (W.B.cl .Keeper) dx fs) := h1
  rw [hfs] at h1
  exact ⟨p, dx, w, .ref q, rfl, m1, h1, h5, ⟨q, us, rfl, ⟨m2, h2⟩, h3⟩, hT⟩
theorem kp_putK {W : Wc} {H : Hp} {fs : List (Str × V)} {lim : Int} {ks ks' : List Str} {q : Addr} {us : List V} {gone : List Str} {v : V} (d : den W H v ks') (h : FRep.fd W H fs (kpB lim ks q us gone)) : FRep.fd W H (putF "_kept" v fs) (kpB lim ks' q us gone) := by
  obtain ⟨w, hfs, h5, h3⟩ := kp_fs h
  rw [hfs]
  exact kp_of d h3
theorem kp_putL {W : Wc} {H : Hp} {fs : List (Str × V)} {lim lim' : Int} {ks : List Str} {q : Addr} {us : List V} {gone : List Str} (h : FRep.fd W H fs (kpB lim ks q us gone)) : FRep.fd W H (putF "_limit" (.int lim') fs) (kpB lim' ks q us gone) := by
  obtain ⟨w, hfs, h5, h3⟩ := kp_fs h
  rw [hfs]
  exact kp_of h5 h3
end G
set_option Elab.async false
set_option linter.all false
set_option maxRecDepth 100000
set_option maxHeartbeats 2000000
namespace G
open PySem PySem.Spec PyProof.Rows L2 StX
section
variable {W : Wd} {F : Hp} {L : OwnH} {Γ : Gam} {R : PoH} {ta tb te : TE} {K : PySem.W.Frag}
/-- a list once or not at all -/
theorem ev_rep01 {α : Type} {rα : Rep α} {k : List α → Prop} (h : EvK W ta Γ fun as : List α => EvK W tb Γ fun n : Int => as.length ≤ 100000 ∧ (n = 0 ∧ k [] ∨ n = 1 ∧ k as)) : EvK W (tOp rRep ta tb) Γ k := by
  refine ev_two (h.imp fun as ha => ha.imp fun n ⟨hl, z⟩ x y H Q o dx dy c => ?_)
  obtain ⟨p, vs, rfl, hp, hd⟩ := dx
  have dy : y = .int n := dy
  subst dy
  have hlen : vs.length ≤ sizeLine := by rw [hd.length]; exact Nat.le_trans hl (by decide : 100000 ≤ sizeLine)
  rcases z with ⟨rfl, z⟩ | ⟨rfl, z⟩
  · refine ⟨p, 0, vs, rfl, rfl, hp.2, by decide, by decide, by show vs.length * 0 ≤ _; omega, fun l hl => ?_⟩
    have e := Ext.new (o := .lst []) o hl
    exact c _ _ _ e ⟨l, _, rfl, Lq.new (fresh_mu o hl) upd_same, .nil⟩ z
  · refine ⟨p, 1, vs, rfl, rfl, hp.2, by decide, by decide, by show vs.length * 1 ≤ _; omega, fun l hl => ?_⟩
    have e1 : (List.replicate (1 : Int).toNat vs).flatten = vs := by show (vs ++ []) = vs; rw [List.append_nil]
    rw [e1]
    have e := Ext.new (o := .lst vs) o hl
    exact c _ _ _ e ⟨l, _, rfl, Lq.new (fresh_mu o hl) upd_same, hd.imp fun _ _ d => Rep.mono e.keep d⟩ z
end
theorem putDc_keys {β : Type} {l : List (Str × β)} {k : Str} {b : β} (h : k ∈ l.map (·.1)) : (putDc l k b).map (·.1) = l.map (·.1) := by
  have h1 : (l.any fun e => decide (e.1 = k)) = true := by
    obtain ⟨e, he, hk⟩ := List.mem_map.mp h
    exact List.any_eq_true.mpr ⟨e, he, decide_eq_true hk⟩
  unfold putDc
  rw [if_pos h1, List.map_map]
  refine List.map_congr_left fun e he => ?_
  show (if e.1 = k then (e.1, b) else e).1 = e.1
  split <;> rfl
class NoTp (α : Type) [Rep α] : Prop where
  at_ : ∀ {W : Wc} {H : Hp} {v : V} {a : α} {q : Addr} {o : HO}, H q = some o → (∀ xs, o ≠ .tup xs) → den W H v a → den (W.plus q) H v a
instance : NoTp Int := ⟨fun _ _ h => h⟩
instance : NoTp Bool := ⟨fun _ _ h => h⟩
instance : NoTp Str := ⟨fun _ _ h => h⟩
instance : NoTp Unit := ⟨fun _ _ h => h⟩
theorem tq_nt {W : Wc} {H : Hp} {p q : Addr} {vs : List V} {o : HO} (h : H q = some o) (ho : ∀ xs, o ≠ .tup xs) (s : Tq W H p vs) : Tq (W.plus q) H p vs :=
  ⟨fun z => z.elim s.1 fun z => (by have := s.2; rw [z, h] at this; exact ho _ (Option.some.inj this)), s.2⟩
instance {α β : Type} [Rep α] [Rep β] [NoTp α] [NoTp β] : NoTp (α × β) := ⟨fun h ho ⟨p, x, y, hv, s, d1, d2⟩ => ⟨p, x, y, hv, tq_nt h ho s, NoTp.at_ h ho d1, NoTp.at_ h ho d2⟩⟩
instance {α β γ : Type} [Rep α] [Rep β] [Rep γ] [NoTp α] [NoTp β] [NoTp γ] : NoTp (T3 α β γ) := ⟨fun h ho ⟨p, x, y, z, hv, s, d1, d2, d3⟩ => ⟨p, x, y, z, hv, tq_nt h ho s, NoTp.at_ h ho d1, NoTp.at_ h ho d2, NoTp.at_ h ho d3⟩⟩
end G
set_option Elab.async false
set_option linter.all false
set_option maxRecDepth 100000
set_option maxHeartbeats 2000000
namespace G
open PySem PySem.Spec PyProof.Rows L2 StX
instance {β : Type} [Rep β] : PyTy (Dc β) "dict" := ⟨fun ⟨p, kvs, hv, s, _⟩ => by subst hv; exact .base (.dK s.2)⟩
end G
set_option Elab.async false
set_option linter.all false
set_option maxRecDepth 100000
set_option maxHeartbeats 2000000
namespace G
open PySem PySem.Spec PyProof.Rows L2 StX
section
variable {W : Wd} {F : Hp} {L L' : OwnH} {Γ : Gam} {R : PoH} {ta : TA} {te te0 te1 tb to : TE} {t : TS} {B : Bs} {K : PySem.W.Frag}
structure PrB where
  p0 : Addr
  d0 : Addr
  f0 : List (Str × V)
  b0 : KB
  p1 : Addr
  d1 : Addr
  f1 : List (Str × V)
  b1 : KB
instance : FRep PrB :=
  ⟨fun W H fs b => fs = [] ∧ FRep.fd W H b.f0 b.b0 ∧ FRep.fd W H b.f1 b.b1, fun e h => ⟨h.1, FRep.mono e h.2.1, FRep.mono e h.2.2⟩, fun D n h => ⟨h.1, FRep.grow D n h.2.1, FRep.grow D n h.2.2⟩,
   fun D h => ⟨h.1, FRep.shrink D h.2.1, FRep.shrink D h.2.2⟩, fun _ => [], fun h => by rw [h.1]; rfl⟩
end
theorem rest_od {β : Type} {rβ : Rep β} {p : Addr} {kvs : List (Key × V)} {ds : List (Str × β)} (W : Wc) (H : Hp) (v : V) (m : ¬ W.mu p) (h : H p = some (.dK kvs)) (d : (T (Od.mk p kvs ds)).den (W.plus p) H v) : (T (Dc.mk ds)).den W H v :=
  ⟨p, kvs, d.1, ⟨m, h⟩, d.2.imp fun _ _ x => Rep.shrink p x⟩
theorem putDc_nd {β : Type} {l : List (Str × β)} {k : Str} {b : β} (h : (l.map (·.1)).Nodup) : ((putDc l k b).map (·.1)).Nodup := by
  by_cases e : k ∈ l.map (·.1)
  · rw [putDc_keys e]
    exact h
  · have h1 : (l.any fun e => decide (e.1 = k)) = false := by
      cases q : l.any fun e => decide (e.1 = k) with
      | false => rfl
      | true =>
        obtain ⟨z, hz, hk⟩ := List.any_eq_true.mp q
        exact absurd (List.mem_map.mpr ⟨z, hz, of_decide_eq_true hk⟩) e
    unfold putDc
    rw [h1, if_neg (by decide), List.map_append]
    refine List.nodup_append.mpr ⟨h, by simp, fun a ha b hb z => ?_⟩
    have hb : b = k := by simpa using hb
    rw [z, hb] at ha
    exact e ha
end G
set_option Elab.async false
set_option linter.all false
set_option maxRecDepth 100000
set_option maxHeartbeats 2000000
namespace G
open PySem PySem.Spec PyProof.Rows L2 StX
structure PropSet (K : PySem.W.Frag) (C : Addr) (f : Str) (p g : Addr) : Prop where
  tk : PySem.W.takerIn K C f = some (some (.ref p))
  ty : PySem.W.typeIn K (.ref p) = some (.type "property")
  rec_ : ∃ a rest, PySem.W.recIn K p "property" = some (a :: .ref g :: rest)
def rfs2 (K : PySem.W.Frag) (p : Addr) (T : String) : Addr := match PySem.W.recIn K p T with
  | some (_ :: .ref g :: _) => g
  | _ => 0
def recB2 (K : PySem.W.Frag) (p : Addr) (T : String) (f : Addr) : Bool := match PySem.W.recIn K p T with
  | some (_ :: .ref g :: _) => decide (g = f)
  | _ => false
theorem recB2_ok {K : PySem.W.Frag} {p f : Addr} {T : String} (h : recB2 K p T f = true) : ∃ a rs, PySem.W.recIn K p T = some (a :: .ref f :: rs) := by
  unfold recB2 at h
  split at h
  · rename_i a g rs e
    rw [of_decide_eq_true h] at e
    exact ⟨a, rs, e⟩
  · cases h
def sPset (C : Addr) (sp : Sp) (E : L2.St → XK) (ta tv : TE) : TS := fun D σ H => tv σ H fun y H1 => ta σ H1 fun x H2 => ∃ a dx fs, x = .ref a ∧ H2 a = some (.ins C dx fs) ∧ sp [.ref a, y] H2 (fun _ H3 => D.nx σ H3) (E σ)
section
variable {X : Cx} {k : Nat} {g C p : Addr} {f : Str} {sp : Sp} {E : L2.St → XK} {o value : Expr} {ta tv : TE} {pos pos' : Pos}
theorem setprop_ok {pins : List (Addr × Obj)} {σ : L2.St} {H : Hp} {s : Shared} {Q : Hp → Prop} {a dx : Addr} {fs : List (Str × V)} {y : V} {u : Value} (I : L2.Inv X pins σ H s) (ea : H a = some (.ins C dx fs)) (c : L2.Cls X.K C) (hp : PropSet X.K C f p g)
    (F : FnR X.prog X.w X.K X.mg X.base (L2.CX X.prog X.w) k g sp) (hr : Room (k + 2) X.A) (hx : PassesAt (L2.CX X.prog X.w) X σ (E σ)) (ry : RelV y u) (h : sp [.ref a, y] H (fun _ H' => Q H') (E σ)) :
    wpAny (model X.prog X.w) X.A (setAttr (.ref a) f u) (fun _ s' => ∃ H', L2.Inv X pins σ H' s' ∧ Q H') X.xe s := by
  obtain ⟨mA, O, _, _, _, _⟩ := ins_get I.hok ea
  obtain ⟨od, J, _⟩ := O.look
  obtain ⟨a0, rest, hrec⟩ := hp.rec_
  have I1 := I.tok (s.toks + 1)
  refine PySem.W.set_plain I.kIn J c.sa (PySem.W.osa_descr (s := { s with toks := s.toks + 1 }) PySem.W.KF.slot_pset I.kIn J c.po hp.tk hp.ty (PySem.W.prop_set (s := { s with toks := s.toks + 1 }) I.kIn hrec ?_))
  refine codeAny_mono (F X.A.in1.in1 X.stack { s with toks := s.toks + 1 } H [.ref a, u] [.ref a, y] _ _ hr.in1.in1 I1.env0.in1.in1 (.cons rfl (.cons ry .nil)) h) fun r s' hq => ?_
  cases r with
  | error er => exact hx pins H _ _ s' I1 hq
  | ok fl =>
    cases fl with
    | ret u =>
      obtain ⟨v, H', I3, rv, q3⟩ := I1.after hq
      exact ⟨H', I3, q3⟩
    | next => exact False.elim hq
    | brk => exact False.elim hq
    | cont => exact False.elim hq
theorem ps_setprop (ho : PE X o ta) (hv : PE X value tv) (c : L2.Cls X.K C) (hp : ∃ p, PropSet X.K C f p g) (F : FnR X.prog X.w X.K X.mg X.base (L2.CX X.prog X.w) k g sp) (hr : Room (k + 2) X.A) (hx : ∀ σ, PassesAt (L2.CX X.prog X.w) X σ (E σ))
    (hs : swapsWith value (some (.Attribute o f pos')) pos.line X.env = pure false := by rfl) : PS X (.Assign [.Attribute o f pos'] value pos) (sPset C sp E ta tv) := by
  obtain ⟨p, hp⟩ := hp
  refine ⟨fun pins s σ H D I h => ?_⟩
  refine plainObj_wpAny_Assign_Attribute (thn (hv.run pins s σ H _ I h) fun u s1 ⟨y, H1, I1, ry, q⟩ => thn (ho.run pins s1 σ H1 _ I1 q) fun ov s2 ⟨x, H2, I2, rx, a, dx, fs, ex, ea, q2⟩ => ?_) hs
  subst ex
  obtain rfl : ov = Value.ref a := rx
  exact thn (setprop_ok I2 ea c hp F hr (hx σ) ry q2) fun _ s3 ⟨H3, I3, q3⟩ => ⟨σ, H3, I3, q3⟩
end
theorem mx_ok0 {β : Type} [FRep β] {cs : Cells β} {B : Bs} {P : PMx β} {t : TS} {N : List Str} {vs : List V} {H : Hp} {Q : VK} {E : XK}
    (hb : ∀ (W : Wd) F M p dx c fs0 b0 ts k, W.B = B → P c b0 k ts →
      SxH W F t (cellsO W.B cs M p dx c fs0 b0) (some (T (Oi.mk p c dx fs0 b0)) :: (ts.map some ++ List.replicate (N.length - (ts.length + 1)) none)) { nx := fun L Γ => ∃ fs b, keysH (cs b) = keysH (cs b0) ∧ L = cellsO W.B cs M p dx c fs b ∧ Γ[0]? = some (some (T (Oi.mk p c dx fs b))) ∧ k b (T ()), rt := fun _ => False })
    (h : spMx cs B P vs H Q E) : t { nx := fun _ H' => Q .non H', rt := Q } (L2.start N vs) H := by
  obtain ⟨W, F, M, p, dx, c, fs0, b0, ws, ts, k, oF, nF, rfl, hB, wF, nd, ho, hw, hf, hd, hp, hq⟩ := h
  subst hB
  refine hb W F M p dx c fs0 b0 ts k rfl hp _ _ H oF nF wF nd ?_ ?_
  · have hd' : DT (W.ownH F (cellsO W.B cs M p dx c fs0 b0) oF nF).toWc H (.ref p :: ws) (T (Oi.mk p c dx fs0 b0) :: ts) := .cons (t := T (Oi.mk p c dx fs0 b0)) ⟨rfl, hf⟩ hd
    have := start_ok (N := N) ho hw hd'
    exact this
  · refine ⟨fun L' oF' nF2 σ' H' Γ' s nd' G ⟨fs, b, hkey, hL, hG, hk⟩ => ?_, fun v H' t e d z => z.elim, fun _ _ _ _ _ _ _ _ _ z => z.elim, fun _ _ _ _ _ _ _ _ _ z => z.elim⟩
    subst hL
    have hk2 := keysO (B := W.B) (M := M) (p := p) (dx := dx) (c := c) (fs := fs0) (fs' := fs) hkey
    obtain ⟨_, h2⟩ := oi_at G hG
    exact hq .non H' fs b (T ()) hkey s.1 G.ok.1 G.ok.2 (by rw [← hk2]; exact h2) rfl hk
section
variable {W : Wd} {F : Hp} {L : OwnH} {Γ : Gam} {R : PoH} {ta : TA} {te tb to tv : TE} {t : TS} {B : Bs} {K : PySem.W.Frag}
/-- o.m(..), o an own object that holds own lists, m's promise has more ways -/
theorem evm_methU {β : Type} {fβ : FRep β} {cs : Cells β} {P : PMx β} {spU : Sp} {E : L2.St → XK} {M : OwnH} {p dx C : Addr} {c : Cn} {m : Str} {i : Nat} {fs0 : List (Str × V)} {b0 : β} {k : OwnH → Gam → Ty → Prop} (hU : ∀ vs H Q E, spMx cs B P vs H Q E → spU vs H Q E) (hL : L = cellsO W.B cs M p dx c fs0 b0) (hi : Γ[i]? = some (some (T (Oi.mk p c dx fs0 b0)))) (hB : W.B = B) (hC : B.cl c = C) (hm : m ∉ FRep.nms b0)
    (h : ∀ Wo, OwnHW W L Wo → EvA Wo ta Γ fun ts => P c b0 (fun b t => ∀ fs, k (cellsO W.B cs M p dx c fs b) (Γ.set i (some (T (Oi.mk p c dx fs b)))) t) ts) : EvM W F (tMethZ C m spU E (tVar i) ta) L Γ k := by
  subst hB
  subst hC
  subst hL
  refine fun σ H oF nF Q wF nd G cc => ?_
  obtain ⟨h1, h2⟩ := oi_at G hi
  have hmem : ∀ {fs : List (Str × V)} {b : β}, (p, HO.ins (W.B.cl c) dx fs) ∈ cellsO W.B cs M p dx c fs b := List.mem_append_right _ List.mem_cons_self
  refine ⟨_, h1, p, dx, fs0, rfl, G.ok.2 _ hmem, look_none (by rw [FRep.nm h2]; exact hm), ?_⟩
  refine h _ (ownH_w wF) σ H _ G fun vs H1 ts e1 d z => ?_
  have G1 := G.ext e1
  obtain ⟨_, h2'⟩ := oi_at G1 hi
  refine hU _ _ _ _ ⟨W, F, M, p, dx, c, fs0, b0, vs, ts, _, oF, nF, rfl, rfl, wF, nd, G1.ok, G1.wish, h2', d, z, fun v H' fs b t hkey kp ok' hH hf dv kb => ?_⟩
  have hk2 := keysO (B := W.B) (M := M) (p := p) (dx := dx) (c := c) (fs := fs0) (fs' := fs) hkey
  have nF' : ∀ q ∈ keysH (cellsO W.B cs M p dx c fs b), F q = none := by rw [hk2]; exact nF
  have s : StpH W (cellsO W.B cs M p dx c fs0 b0) H (cellsO W.B cs M p dx c fs b) H' := ⟨fun a u m q => kp a u m (e1.keep a u m q), fun q hq => .inl (by rw [hk2] at hq; exact hq)⟩
  have hl : i < Γ.length := (List.getElem?_eq_some_iff.mp hi).1
  refine cc _ oF nF' H' _ v t s (by rw [hk2]; exact nd) ⟨⟨ok', hH⟩, fun a u m q => ?_, fun j t' ht => ?_, by rw [List.length_set]; exact G1.len⟩ ?_ (kb fs)
  · refine kp a u (fun z => ?_) (G1.wish a u m q)
    rcases plusL_mu.mp z with z | z
    · exact m z
    · rw [nF a z] at q
      cases q
  · show ∃ v, σ[j]? = some (some v) ∧ t'.den (W.toWc.plusL (keysH (cellsO W.B cs M p dx c fs b))) H' v
    rw [hk2]
    by_cases e : i = j
    · subst e
      rw [List.getElem?_set_self hl] at ht
      cases ht
      exact ⟨_, h1, rfl, hf⟩
    · rw [List.getElem?_set_ne e] at ht
      obtain ⟨v, h3, h4⟩ := G1.at_ j t' ht
      exact ⟨v, h3, Ty.mono kp h4⟩
  · show t.den (W.toWc.plusL (keysH (cellsO W.B cs M p dx c fs b))) H' v
    rw [hk2]
    exact dv
/-- self.f = e, f a property with a setter, self an own object -/
theorem sxh_pset {α β : Type} {rα : Rep α} {fβ : FRep β} {cs : Cells β} {P : PMx β} {spU : Sp} {E : L2.St → XK} {M : OwnH} {p dx C : Addr} {c : Cn} {i : Nat} {fs0 : List (Str × V)} {b0 : β} (hU : ∀ vs H Q E, spMx cs B P vs H Q E → spU vs H Q E) (hL : L = cellsO W.B cs M p dx c fs0 b0) (hi : Γ[i]? = some (some (T (Oi.mk p c dx fs0 b0)))) (hB : W.B = B) (hC : B.cl c = C)
    (h : ∀ Wo, OwnHW W L Wo → EvK Wo tv Γ fun a : α => P c b0 (fun b _ => ∀ fs, R.nx (cellsO W.B cs M p dx c fs b) (Γ.set i (some (T (Oi.mk p c dx fs b))))) [T a]) : SxH W F (sPset C spU E (tVar i) tv) L Γ R := by
  subst hB
  subst hC
  subst hL
  refine fun D σ H oF nF wF nd G O => ?_
  have hmem : ∀ {fs : List (Str × V)} {b : β}, (p, HO.ins (W.B.cl c) dx fs) ∈ cellsO W.B cs M p dx c fs b := List.mem_append_right _ List.mem_cons_self
  refine h _ (ownH_w wF) σ H _ G fun y H1 a e1 dy z => ?_
  have G1 := G.ext e1
  obtain ⟨h1, h2⟩ := oi_at G1 hi
  refine ⟨_, h1, p, dx, fs0, rfl, G1.ok.2 _ hmem, ?_⟩
  refine hU _ _ _ _ ⟨W, F, M, p, dx, c, fs0, b0, [y], [T a], _, oF, nF, rfl, rfl, wF, nd, G1.ok, G1.wish, h2, .cons (t := T a) dy .nil, z, fun v H' fs b t hkey kp ok' hH hf dv kb => ?_⟩
  have hk2 := keysO (B := W.B) (M := M) (p := p) (dx := dx) (c := c) (fs := fs0) (fs' := fs) hkey
  have nF' : ∀ q ∈ keysH (cellsO W.B cs M p dx c fs b), F q = none := by rw [hk2]; exact nF
  have s : StpH W (cellsO W.B cs M p dx c fs0 b0) H (cellsO W.B cs M p dx c fs b) H' := ⟨fun a u m q => kp a u m (e1.keep a u m q), fun q hq => .inl (by rw [hk2] at hq; exact hq)⟩
  have hl : i < Γ.length := (List.getElem?_eq_some_iff.mp hi).1
  refine O.nx _ oF nF' σ H' _ s (by rw [hk2]; exact nd) ⟨⟨ok', hH⟩, fun a u m q => ?_, fun j t' ht => ?_, by rw [List.length_set]; exact G1.len⟩ (kb fs)
  · refine kp a u (fun z => ?_) (G1.wish a u m q)
    rcases plusL_mu.mp z with z | z
    · exact m z
    · rw [nF a z] at q
      cases q
  · show ∃ v, σ[j]? = some (some v) ∧ t'.den (W.toWc.plusL (keysH (cellsO W.B cs M p dx c fs b))) H' v
    rw [hk2]
    by_cases e : i = j
    · subst e
      rw [List.getElem?_set_self hl] at ht
      cases ht
      exact ⟨_, h1, rfl, hf⟩
    · rw [List.getElem?_set_ne e] at ht
      obtain ⟨v, h3, h4⟩ := G1.at_ j t' ht
      exact ⟨v, h3, Ty.mono kp h4⟩
/-- the promise's other way: the object as data, an error -/
theorem sx_psetX {α : Type} {rα : Rep α} {P : PT} {spU : Sp} {E : L2.St → XK} {x : Xn → Prop} {C : Addr} {R : Po} (hU : ∀ vs H Q E, spG B P vs H Q E → spU vs H Q E) (hB : W.B = B) (hC : B.cl .Keeper = C) (hx : HX W Γ E x)
    (h : EvK W tv Γ fun a : α => EvK W to Γ fun s : Kd => P (fun _ => False) x [T s, T a]) : Sx W (sPset C spU E to tv) Γ R := by
  subst hB
  subst hC
  exact fun D σ H G O => h σ H _ G fun y H1 a e1 dy h2 => h2 σ H1 _ (G.ext e1) fun v H2 s e2 d z => by
    obtain ⟨p, dx, w, u, hv, m, hH, hw, hu, hT⟩ := id d
    refine ⟨p, dx, _, hv, hH, hU _ _ _ _ ⟨W, [T s, T a], _, x, rfl, e2.ok, .cons (t := T s) (by rw [← hv]; exact d) (.cons (t := T a) (Rep.mono e2.keep dy) .nil), z, fun v H3 t e3 dt q => q.elim, hx σ H2 ((G.ext e1).ext e2)⟩⟩
theorem ev_kpX {P : PT} {spU : Sp} {E : L2.St → XK} {x : Xn → Prop} {C : Addr} {m : Str} (hU : ∀ vs H Q E, spG B P vs H Q E → spU vs H Q E) (hB : W.B = B) (hC : B.cl .Keeper = C) (hm : m ∉ [("_limit" : Str), "_kept", "_dropped"]) (hx : HX W Γ E x)
    (h : EvK W to Γ fun s : Kd => EvA W ta Γ fun ts => P (fun _ => False) x (T s :: ts)) : EvK W (tMethZ C m spU E to ta) Γ (fun _ : Unit => False) := by
  subst hB
  subst hC
  exact fun σ H Q G c => h σ H _ G fun v H1 s e1 d z => by
    obtain ⟨p, dx, w, u, hv, mm, hH, hw, hu, hT⟩ := id d
    refine ⟨p, dx, _, hv, hH, look_none hm, z σ H1 _ (G.ext e1) fun vs H2 ts e2 d2 z2 => hU _ _ _ _ ?_⟩
    exact ⟨W, _, _, x, rfl, e2.ok, .cons (t := T s) (Rep.mono e2.keep d) d2, z2, fun v H3 t e3 dt q => q.elim, hx σ H2 ((G.ext e1).ext e2)⟩
theorem sx_dropFX {β : Type} {fβ : FRep β} {cs : Cells β} {c : Cn} {R : Po} (h : EvFX cs W c te Γ fun _ : β => R.nx Γ) : Sx W (tDrop te) Γ R := fun D σ H G O =>
  h σ H _ G fun p dx fs H' b n nd e hp hb q => O.nx σ H' Γ e (G.ext e) q
/-- try with a named handler, beside own things -/
theorem sxh_try {c : Value} {i : Nat} {tb : WX → TS} {ts : Addr → Value → Option Addr → TS} {Wout : WX} (x : Xn → Prop)
    (hb : ∀ (W' : Wd) (Wx : WX), W'.B = W.B → HX W' Γ (WE Wx) x → Sx W' (tb Wx) Γ { nx := R.nx L, rt := R.rt, bk := R.bk L, ct := R.ct L })
    (hs : ∀ a d n, x n → PySem.W.exmOne K (.ref (W.B.cl n.c)) c = some true ∧ SxH W F (ts a (.ref (W.B.cl n.c)) d) L (Γ.set i (some (T (Er.mk a d n)))) { nx := fun L' Γ' => R.nx L' (Γ'.set i none), rt := R.rt, bk := fun L' Γ' => R.bk L' (Γ'.set i none), ct := fun L' Γ' => R.ct L' (Γ'.set i none) }) :
    SxH W F (tTry K c i tb ts Wout) L Γ R := fun D σ H oF nF wF nd G O => by
  have hB : (W.ownH F L oF nF).B = W.B := plusL_B
  have key : ∀ σ n d H2, Ext (W.ownH F L oF nF) H H2 → GOk (W.ownH F L oF nF) H2 σ Γ → xden (W.ownH F L oF nF).toWc H2 d n.fs → x n → WE (wAs K c i ts Wout D) σ (.ref (W.B.cl n.c)) d H2 := by
    intro σ n d H2 e G2 xd xn
    obtain ⟨h1, _⟩ := hs 0 d n xn
    refine ⟨true, h1, fun _ a ha => ?_, fun q => Bool.noConfusion q⟩
    refine (hs a d n xn).2 _ _ H2 oF nF wF nd (G2.set i (t := T (Er.mk a d n)) ⟨rfl, xd⟩) ⟨fun L' oF' nF' σ' H' Γ' s nd' G' q => ?_, fun v H' t e' dv q => ?_, fun L' oF' nF' σ' H' Γ' s nd' G' q => ?_, fun L' oF' nF' σ' H' Γ' s nd' G' q => ?_⟩
    · exact O.nx L' oF' nF' _ H' _ ((ownH_stp e).trans G2.ok.1 s) nd' (G'.unset i) q
    · exact O.rt v H' t e' dv q
    · exact O.bk L' oF' nF' _ H' _ ((ownH_stp e).trans G2.ok.1 s) nd' (G'.unset i) q
    · exact O.ct L' oF' nF' _ H' _ ((ownH_stp e).trans G2.ok.1 s) nd' (G'.unset i) q
  have O2 := eokH_un nd O G.wish G.ok
  refine hb ((W.ownH F L oF nF).tr Γ (WE (wAs K c i ts Wout D)) x) _ hB (fun σ' H' G' n d H2 e xd xn => ?_) D σ H ⟨G.ok, ⟨G.wish, fun σ n d H2 e G2 xd xn => by rw [hB]; exact key σ n d H2 e G2 xd xn⟩, G.at_, G.len⟩ ⟨fun σ' H' Γ' e' G' q => O2.nx σ' H' Γ' e'.untr G'.untr q, fun v H' t e' dv q => O2.rt v H' t e'.untr dv q, fun σ' H' Γ' e' G' q => O2.bk σ' H' Γ' e'.untr G'.untr q, fun σ' H' Γ' e' G' q => O2.ct σ' H' Γ' e'.untr G'.untr q⟩
  exact G'.wish.2 σ' n d H2 e.untr (G'.untr.ext e.untr) xd xn
end
section
variable {W : Wd} {F : Hp} {L : OwnH} {Γ : Gam} {ta : TA} {te ta' tb : TE} {B : Bs} {K : PySem.W.Frag}
/-- a call by one of the ways of its promise -/
theorem ev_callU {α : Type} {rα : Rep α} {P : PT} {spU : Sp} {k : α → Prop} (hU : ∀ vs H Q E, spG B P vs H Q E → spU vs H Q E) (hB : W.B = B) (h : EvA W ta Γ fun ts => P (fun t => ∃ a : α, t = T a ∧ k a) (fun _ => False) ts) : EvK W (tCallR spU E0 ta) Γ k := by
  subst hB
  exact fun σ H Q G c => h σ H _ G fun vs H1 ts e1 d z => hU _ _ _ _ ⟨W, ts, _, _, rfl, e1.ok, d, z, fun v H2 t e2 dt ⟨a, ea, q⟩ => by
    subst ea
    exact c v H2 a (e1.trans e2) dt q, fun n d2 H2 _ _ z => z.elim⟩
/-- f(x, ..), x an own object that holds own lists -/
theorem evm_callU {β : Type} {fβ : FRep β} {cs : Cells β} {P : PMx β} {spU : Sp} {E : XK} {M : OwnH} {p dx : Addr} {c : Cn} {i : Nat} {fs0 : List (Str × V)} {b0 : β} {k : OwnH → Gam → Ty → Prop} (hU : ∀ vs H Q E, spMx cs B P vs H Q E → spU vs H Q E) (hL : L = cellsO W.B cs M p dx c fs0 b0) (hi : Γ[i]? = some (some (T (Oi.mk p c dx fs0 b0)))) (hB : W.B = B)
    (h : ∀ Wo, OwnHW W L Wo → EvA Wo ta Γ fun ts => P c b0 (fun b t => ∀ fs, k (cellsO W.B cs M p dx c fs b) (Γ.set i (some (T (Oi.mk p c dx fs b)))) t) ts) : EvM W F (tCallR spU E (tCons (tVar i) ta)) L Γ k := by
  subst hB
  subst hL
  refine fun σ H oF nF Q wF nd G cc => ?_
  obtain ⟨h1, h2⟩ := oi_at G hi
  refine ⟨_, h1, ?_⟩
  refine h _ (ownH_w wF) σ H _ G fun vs H1 ts e1 d z => ?_
  have G1 := G.ext e1
  obtain ⟨_, h2'⟩ := oi_at G1 hi
  refine hU _ _ _ _ ⟨W, F, M, p, dx, c, fs0, b0, vs, ts, _, oF, nF, rfl, rfl, wF, nd, G1.ok, G1.wish, h2', d, z, fun v H' fs b t hkey kp ok' hH hf dv kb => ?_⟩
  have hk2 := keysO (B := W.B) (M := M) (p := p) (dx := dx) (c := c) (fs := fs0) (fs' := fs) hkey
  have nF' : ∀ q ∈ keysH (cellsO W.B cs M p dx c fs b), F q = none := by rw [hk2]; exact nF
  have s : StpH W (cellsO W.B cs M p dx c fs0 b0) H (cellsO W.B cs M p dx c fs b) H' := ⟨fun a u m q => kp a u m (e1.keep a u m q), fun q hq => .inl (by rw [hk2] at hq; exact hq)⟩
  have hl : i < Γ.length := (List.getElem?_eq_some_iff.mp hi).1
  refine cc _ oF nF' H' _ v t s (by rw [hk2]; exact nd) ⟨⟨ok', hH⟩, fun a u m q => ?_, fun j t' ht => ?_, by rw [List.length_set]; exact G1.len⟩ ?_ (kb fs)
  · refine kp a u (fun z => ?_) (G1.wish a u m q)
    rcases plusL_mu.mp z with z | z
    · exact m z
    · rw [nF a z] at q
      cases q
  · show ∃ v, σ[j]? = some (some v) ∧ t'.den (W.toWc.plusL (keysH (cellsO W.B cs M p dx c fs b))) H' v
    rw [hk2]
    by_cases e : i = j
    · subst e
      rw [List.getElem?_set_self hl] at ht
      cases ht
      exact ⟨_, h1, rfl, hf⟩
    · rw [List.getElem?_set_ne e] at ht
      obtain ⟨v, h3, h4⟩ := G1.at_ j t' ht
      exact ⟨v, h3, Ty.mono kp h4⟩
  · show t.den (W.toWc.plusL (keysH (cellsO W.B cs M p dx c fs b))) H' v
    rw [hk2]
    exact dv
/-- [x, y] + [z] of two kinds -/
theorem ev_cat21 {α β : Type} {rα : Rep α} {rβ : Rep β} {x y : α} {z : β} {k : Li3 α α β → Prop} (h : EvK W ta' Γ fun as : List α => as = [x, y] ∧ EvK W tb Γ fun bs : List β => bs = [z] ∧ k ⟨x, y, z⟩) : EvK W (tOp rCat ta' tb) Γ k := by
  refine ev_two (h.imp fun as ⟨e1, ha⟩ => ha.imp fun bs ⟨e2, q⟩ u v H Q o dx dy c => ?_)
  subst e1 e2
  obtain ⟨p, vs, rfl, hp, hd⟩ := dx
  obtain ⟨r, ws, rfl, hr, hd2⟩ := dy
  have hE : ∀ l, H l = none → Ext W H (upd H l (.lst (vs ++ ws))) := fun l hl => Ext.new (o := .lst (vs ++ ws)) o hl
  cases hd with
  | cons d1 hd =>
    cases hd with
    | cons d2 hd =>
      cases hd
      cases hd2 with
      | cons d3 hd2 =>
        cases hd2
        refine ⟨p, r, _, _, rfl, rfl, hp.2, hr.2, by show 3 ≤ sizeLine; decide, fun l hl => ?_⟩
        have e := hE l hl
        exact c _ _ _ e ⟨l, _, _, _, rfl, Lq.new (fresh_mu o hl) upd_same, Rep.mono e.keep d1, Rep.mono e.keep d2, Rep.mono e.keep d3⟩ q
/-- [x] + [z] of two kinds -/
theorem ev_cat11 {α β : Type} {rα : Rep α} {rβ : Rep β} {x : α} {z : β} {k : Li2 α β → Prop} (h : EvK W ta' Γ fun as : List α => as = [x] ∧ EvK W tb Γ fun bs : List β => bs = [z] ∧ k ⟨x, z⟩) : EvK W (tOp rCat ta' tb) Γ k := by
  refine ev_two (h.imp fun as ⟨e1, ha⟩ => ha.imp fun bs ⟨e2, q⟩ u v H Q o dx dy c => ?_)
  subst e1 e2
  obtain ⟨p, vs, rfl, hp, hd⟩ := dx
  obtain ⟨r, ws, rfl, hr, hd2⟩ := dy
  have hE : ∀ l, H l = none → Ext W H (upd H l (.lst (vs ++ ws))) := fun l hl => Ext.new (o := .lst (vs ++ ws)) o hl
  cases hd with
  | cons d1 hd =>
    cases hd
    cases hd2 with
    | cons d3 hd2 =>
      cases hd2
      refine ⟨p, r, _, _, rfl, rfl, hp.2, hr.2, by show 2 ≤ sizeLine; decide, fun l hl => ?_⟩
      have e := hE l hl
      exact c _ _ _ e ⟨l, _, _, rfl, Lq.new (fresh_mu o hl) upd_same, Rep.mono e.keep d1, Rep.mono e.keep d3⟩ q
end
end G
set_option Elab.async false
set_option linter.all false
set_option maxRecDepth 100000
set_option maxHeartbeats 4000000
namespace Lw
open PySem PySem.Spec PyProof.Rows L2 StX G
def top (i : Nat) : Stmt := PySem.Challenge.pw_gaugemiss_k51_keeper_limits.main.body.getD i (.Pass ⟨0, 0, 0, 0⟩)
abbrev s_take : Stmt := top 31
abbrev s_box : Stmt := top 30
abbrev s_word : Stmt := top 32
abbrev s_words : Stmt := top 33
abbrev s_m_is_gauge_name : Stmt := top 22
abbrev s_BadGauge_init : Stmt := inClass (top 7) 0
abbrev s_Gauge_init : Stmt := inClass (top 23) 1
abbrev s_CoarseGauge_init : Stmt := inClass (top 24) 0
abbrev s_LateGauge_init : Stmt := inClass (top 25) 0
abbrev s_LateCoarseGauge_init : Stmt := inClass (top 26) 0
abbrev s_specs : Stmt := top 34
abbrev s_gauge : Stmt := top 36
abbrev s_gauges : Stmt := top 37
abbrev s_slacks : Stmt := top 35
abbrev s_Gauge_slack_below : Stmt := inClass (top 23) 2
abbrev s_Gauge_slack_above : Stmt := inClass (top 23) 3
abbrev s_CoarseGauge_slack_above : Stmt := inClass (top 24) 1
abbrev s_LateGauge_slack_below : Stmt := inClass (top 25) 1
abbrev s_LateGauge_slack_above : Stmt := inClass (top 25) 2
abbrev s_DuplicateGauge_init : Stmt := inClass (top 8) 0
abbrev s_UnknownGauge_init : Stmt := inClass (top 9) 0
abbrev s_Rack_names : Stmt := inClass (top 28) 2
abbrev s_Rack_contains : Stmt := inClass (top 28) 12
abbrev s_Rack_gauge : Stmt := inClass (top 28) 3
abbrev s_Rack_faults : Stmt := inClass (top 28) 4
abbrev s_Rack_refuse_unknown : Stmt := inClass (top 28) 9
abbrev s_m_faults_of : Stmt := top 27
abbrev s_Rack_init : Stmt := inClass (top 28) 0
abbrev s_Rack_of : Stmt := inClass (top 28) 1
abbrev s_m_without : Stmt := top 14
abbrev s_m_farthest : Stmt := top 15
abbrev s_MissingReading_init : Stmt := inClass (top 10) 0
abbrev s_NoLevel_init : Stmt := inClass (top 4) 0
abbrev s_BadLimit_init : Stmt := inClass (top 11) 0
abbrev s_m_refuse_limit : Stmt := top 13
abbrev s_Keeper_init : Stmt := inClass (top 16) 0
abbrev s_Keeper_kept : Stmt := inClass (top 16) 5
abbrev s_Keeper_dropped : Stmt := inClass (top 16) 6
abbrev s_Keeper_take : Stmt := inClass (top 16) 4
abbrev s_Keeper_limit : Stmt := inClass (top 16) 1
abbrev s_Keeper_limit__set : Stmt := inClass (top 16) 2
abbrev s_Keeper_change : Stmt := inClass (top 16) 3
abbrev s_spot : Stmt := top 41
abbrev s_shown : Stmt := top 42
abbrev s_lie : Stmt := top 43
abbrev s_farthest : Stmt := top 38
abbrev s_tick : Stmt := top 39
abbrev s_few : Stmt := top 40
abbrev s_refused : Stmt := top 44
abbrev s_take_told : Stmt := top 45
abbrev s_law : Stmt := top 46
theorem sc_take : FnScope ["_law_box_here", "_law_many", "_law_cells", "_law_digit", "_law_cell"] ["_law_box_here", "_law_many"] (defScope s_take) := ⟨rfl, rfl, rfl, by decide +kernel, rfl, by decide +kernel, by decide +kernel⟩
theorem sc_box : FnScope ["_law_script", "_law_salt", "_law_cell"] ["_law_script", "_law_salt"] (defScope s_box) := ⟨rfl, rfl, rfl, by decide +kernel, rfl, by decide +kernel, by decide +kernel⟩
theorem sc_word : FnScope ["_law_number", "_law_many", "_law_back", "_law_word_here", "_law_turn"] ["_law_number", "_law_many", "_law_back"] (defScope s_word) := ⟨rfl, rfl, rfl, by decide +kernel, rfl, by decide +kernel, by decide +kernel⟩
theorem sc_words : FnScope ["_law_box_here", "_law_many", "_law_words_here", "_law_back", "_law_turn", "_law_wide", "_law_number", "_law_word_here", "_law_again"] ["_law_box_here", "_law_many"] (defScope s_words) := ⟨rfl, rfl, rfl, by decide +kernel, rfl, by decide +kernel, by decide +kernel⟩
theorem sc_m_is_gauge_name : FnScope ["name", "sign"] ["name"] (defScope s_m_is_gauge_name) := ⟨rfl, rfl, rfl, by decide +kernel, rfl, by decide +kernel, by decide +kernel⟩
theorem sc_Gauge_init : FnScope ["self", "name", "radius"] ["self", "name", "radius"] (defScope s_Gauge_init) := ⟨rfl, rfl, rfl, by decide +kernel, rfl, by decide +kernel, by decide +kernel⟩
theorem sc_CoarseGauge_init : FnScope ["self", "name", "radius", "step"] ["self", "name", "radius", "step"] (defScope s_CoarseGauge_init) := ⟨rfl, rfl, rfl, by decide +kernel, rfl, by decide +kernel, by decide +kernel⟩
theorem sc_LateGauge_init : FnScope ["self", "name", "radius", "late", "pace"] ["self", "name", "radius", "late", "pace"] (defScope s_LateGauge_init) := ⟨rfl, rfl, rfl, by decide +kernel, rfl, by decide +kernel, by decide +kernel⟩
theorem sc_LateCoarseGauge_init : FnScope ["self", "name", "radius", "step", "late", "pace"] ["self", "name", "radius", "step", "late", "pace"] (defScope s_LateCoarseGauge_init) := ⟨rfl, rfl, rfl, by decide +kernel, rfl, by decide +kernel, by decide +kernel⟩
theorem sc_specs : FnScope ["_law_box_here", "_law_words_here", "_law_unit", "_law_wide", "_law_specs_here", "_law_word_here", "_law_sort", "_law_grain", "_law_drift"] ["_law_box_here", "_law_words_here"] (defScope s_specs) := ⟨rfl, rfl, rfl, by decide +kernel, rfl, by decide +kernel, by decide +kernel⟩
theorem sc_gauge : FnScope ["_law_spec"] ["_law_spec"] (defScope s_gauge) := ⟨rfl, rfl, rfl, by decide +kernel, rfl, by decide +kernel, by decide +kernel⟩
theorem sc_gauges : FnScope ["_law_specs_here", "_law_spec"] ["_law_specs_here"] (defScope s_gauges) := ⟨rfl, rfl, rfl, by decide +kernel, rfl, by decide +kernel, by decide +kernel⟩
theorem sc_slacks : FnScope ["_law_spec", "_law_old"] ["_law_spec"] (defScope s_slacks) := ⟨rfl, rfl, rfl, by decide +kernel, rfl, by decide +kernel, by decide +kernel⟩
theorem sc_DuplicateGauge_init : FnScope ["self", "name"] ["self", "name"] (defScope s_DuplicateGauge_init) := ⟨rfl, rfl, rfl, by decide +kernel, rfl, by decide +kernel, by decide +kernel⟩
theorem sc_UnknownGauge_init : FnScope ["self", "name"] ["self", "name"] (defScope s_UnknownGauge_init) := ⟨rfl, rfl, rfl, by decide +kernel, rfl, by decide +kernel, by decide +kernel⟩
theorem sc_Rack_names : FnScope ["self", "each"] ["self"] (defScope s_Rack_names) := ⟨rfl, rfl, rfl, by decide +kernel, rfl, by decide +kernel, by decide +kernel⟩
theorem sc_Rack_contains : FnScope ["self", "x"] ["self", "x"] (defScope s_Rack_contains) := ⟨rfl, rfl, rfl, by decide +kernel, rfl, by decide +kernel, by decide +kernel⟩
theorem sc_Rack_refuse_unknown : FnScope ["self", "names", "name"] ["self", "names"] (defScope s_Rack_refuse_unknown) := ⟨rfl, rfl, rfl, by decide +kernel, rfl, by decide +kernel, by decide +kernel⟩
theorem sc_m_faults_of : FnScope ["names", "together", "groups", "group", "member", "faults", "name", "fault", "other"] ["names", "together"] (defScope s_m_faults_of) := ⟨rfl, rfl, rfl, by decide +kernel, rfl, by decide +kernel, by decide +kernel⟩
theorem sc_Rack_init : FnScope ["self", "together", "gauges", "each", "grouped", "group", "name"] ["self", "together", "gauges"] (defScope s_Rack_init) := ⟨rfl, rfl, rfl, by decide +kernel, rfl, by decide +kernel, by decide +kernel⟩
theorem sc_Rack_of : FnScope ["cls", "gauges", "together"] ["cls", "gauges", "together"] (defScope s_Rack_of) := ⟨rfl, rfl, rfl, by decide +kernel, rfl, by decide +kernel, by decide +kernel⟩
theorem sc_m_without : FnScope ["names", "name", "other"] ["names", "name"] (defScope s_m_without) := ⟨rfl, rfl, rfl, by decide +kernel, rfl, by decide +kernel, by decide +kernel⟩
theorem sc_m_farthest : FnScope ["kept", "readings", "answer", "name", "distances", "most"] ["kept", "readings"] (defScope s_m_farthest) := ⟨rfl, rfl, rfl, by decide +kernel, rfl, by decide +kernel, by decide +kernel⟩
theorem sc_MissingReading_init : FnScope ["self", "name"] ["self", "name"] (defScope s_MissingReading_init) := ⟨rfl, rfl, rfl, by decide +kernel, rfl, by decide +kernel, by decide +kernel⟩
theorem sc_NoLevel_init : FnScope ["self"] ["self"] (defScope s_NoLevel_init) := ⟨rfl, rfl, rfl, by decide +kernel, rfl, by decide +kernel, by decide +kernel⟩
theorem sc_BadLimit_init : FnScope ["self", "number"] ["self", "number"] (defScope s_BadLimit_init) := ⟨rfl, rfl, rfl, by decide +kernel, rfl, by decide +kernel, by decide +kernel⟩
theorem sc_m_refuse_limit : FnScope ["limit"] ["limit"] (defScope s_m_refuse_limit) := ⟨rfl, rfl, rfl, by decide +kernel, rfl, by decide +kernel, by decide +kernel⟩
theorem sc_Keeper_init : FnScope ["self", "rack", "limit"] ["self", "rack", "limit"] (defScope s_Keeper_init) := ⟨rfl, rfl, rfl, by decide +kernel, rfl, by decide +kernel, by decide +kernel⟩
theorem sc_Keeper_kept : FnScope ["self"] ["self"] (defScope s_Keeper_kept) := ⟨rfl, rfl, rfl, by decide +kernel, rfl, by decide +kernel, by decide +kernel⟩
theorem sc_Keeper_dropped : FnScope ["self"] ["self"] (defScope s_Keeper_dropped) := ⟨rfl, rfl, rfl, by decide +kernel, rfl, by decide +kernel, by decide +kernel⟩
theorem sc_Keeper_take : FnScope ["self", "readings", "name", "answer", "most", "farthest"] ["self", "readings"] (defScope s_Keeper_take) := ⟨rfl, rfl, rfl, by decide +kernel, rfl, by decide +kernel, by decide +kernel⟩
theorem sc_Keeper_limit : FnScope ["self"] ["self"] (defScope s_Keeper_limit) := ⟨rfl, rfl, rfl, by decide +kernel, rfl, by decide +kernel, by decide +kernel⟩
theorem sc_Keeper_limit__set : FnScope ["self", "limit"] ["self", "limit"] (defScope s_Keeper_limit__set) := ⟨rfl, rfl, rfl, by decide +kernel, rfl, by decide +kernel, by decide +kernel⟩
theorem sc_Keeper_change : FnScope ["self", "limit"] ["self", "limit"] (defScope s_Keeper_change) := ⟨rfl, rfl, rfl, by decide +kernel, rfl, by decide +kernel, by decide +kernel⟩
theorem sc_spot : FnScope ["_law_box_here"] ["_law_box_here"] (defScope s_spot) := ⟨rfl, rfl, rfl, by decide +kernel, rfl, by decide +kernel, by decide +kernel⟩
theorem sc_shown : FnScope ["_law_box_here", "_law_spec", "_law_spot_here", "_law_slacks_here", "_law_wide", "_law_part"] ["_law_box_here", "_law_spec", "_law_spot_here"] (defScope s_shown) := ⟨rfl, rfl, rfl, by decide +kernel, rfl, by decide +kernel, by decide +kernel⟩
theorem sc_lie : FnScope ["_law_box_here", "_law_spot_here", "_law_far"] ["_law_box_here", "_law_spot_here"] (defScope s_lie) := ⟨rfl, rfl, rfl, by decide +kernel, rfl, by decide +kernel, by decide +kernel⟩
theorem sc_farthest : FnScope ["_law_kept", "_law_readings", "_law_middle", "_law_word_here", "_law_best"] ["_law_kept", "_law_readings"] (defScope s_farthest) := ⟨rfl, rfl, rfl, by decide +kernel, rfl, by decide +kernel, by decide +kernel⟩
theorem sc_tick : FnScope ["_law_box_here", "_law_specs_here", "_law_lot", "_law_spot_here", "_law_readings", "_law_spec", "_law_dial", "_law_lie_here", "_law_turned"] ["_law_box_here", "_law_specs_here", "_law_lot", "_law_spot_here"] (defScope s_tick) := ⟨rfl, rfl, rfl, by decide +kernel, rfl, by decide +kernel, by decide +kernel⟩
theorem sc_few : FnScope ["_law_box_here", "_law_words_here", "_law_word_here"] ["_law_box_here", "_law_words_here"] (defScope s_few) := ⟨rfl, rfl, rfl, by decide +kernel, rfl, by decide +kernel, by decide +kernel⟩
theorem sc_refused : FnScope ["_law_rack", "_law_keeper", "_law_worth", "_law_found", "e"] ["_law_rack", "_law_keeper", "_law_worth"] (defScope s_refused) := ⟨rfl, rfl, rfl, by decide +kernel, rfl, by decide +kernel, by decide +kernel⟩
theorem sc_take_told : FnScope ["_law_keeper", "_law_readings", "e"] ["_law_keeper", "_law_readings"] (defScope s_take_told) := ⟨rfl, rfl, rfl, by decide +kernel, rfl, by decide +kernel, by decide +kernel⟩
theorem sc_law : FnScope ["_law_script", "_law_box_here", "_law_words_here", "_law_specs_here", "_law_limit_now", "_law_rack", "_law_keeper", "_law_kept", "_law_gone", "_law_turn", "_law_deed", "_law_worth", "_law_spot_here", "_law_readings", "_law_word_here", "_law_missing", "_law_due", "_law_far"] ["_law_script"] (defScope s_law) := ⟨rfl, rfl, rfl, by decide +kernel, rfl, by decide +kernel, by decide +kernel⟩
structure Ad where
  c_GaugeError : Addr
  c_NoLevel : Addr
  c_Apart : Addr
  c_BadLiars : Addr
  c_BadGauge : Addr
  c_DuplicateGauge : Addr
  c_UnknownGauge : Addr
  c_MissingReading : Addr
  c_BadLimit : Addr
  c_Keeper : Addr
  c_Gauge : Addr
  c_CoarseGauge : Addr
  c_LateGauge : Addr
  c_LateCoarseGauge : Addr
  c_Rack : Addr
  f_take : Addr
  f_box : Addr
  f_word : Addr
  f_words : Addr
  f_m_is_gauge_name : Addr
  f_BadGauge_init : Addr
  f_Gauge_init : Addr
  f_CoarseGauge_init : Addr
  f_LateGauge_init : Addr
  f_LateCoarseGauge_init : Addr
  f_specs : Addr
  f_gauge : Addr
  f_gauges : Addr
  f_slacks : Addr
  f_Gauge_slack_below : Addr
  f_Gauge_slack_above : Addr
  f_CoarseGauge_slack_above : Addr
  f_LateGauge_slack_below : Addr
  f_LateGauge_slack_above : Addr
  f_DuplicateGauge_init : Addr
  f_UnknownGauge_init : Addr
  f_Rack_names : Addr
  f_Rack_contains : Addr
  f_Rack_gauge : Addr
  f_Rack_faults : Addr
  f_Rack_refuse_unknown : Addr
  f_m_faults_of : Addr
  f_Rack_init : Addr
  f_Rack_of : Addr
  f_m_without : Addr
  f_m_farthest : Addr
  f_MissingReading_init : Addr
  f_NoLevel_init : Addr
  f_BadLimit_init : Addr
  f_m_refuse_limit : Addr
  f_Keeper_init : Addr
  f_Keeper_kept : Addr
  f_Keeper_dropped : Addr
  f_Keeper_take : Addr
  f_Keeper_limit : Addr
  f_Keeper_limit__set : Addr
  f_Keeper_change : Addr
  f_spot : Addr
  f_shown : Addr
  f_lie : Addr
  f_farthest : Addr
  f_tick : Addr
  f_few : Addr
  f_refused : Addr
  f_take_told : Addr
  f_law : Addr
  k_BARRED : Addr
  k_em_Rack_init : Addr
  k_em_Rack_of : Addr
def bs (K : PySem.W.Frag) (A : Ad) : Bs := ⟨K, fun
  | .GaugeError => A.c_GaugeError
  | .NoLevel => A.c_NoLevel
  | .Apart => A.c_Apart
  | .BadLiars => A.c_BadLiars
  | .BadGauge => A.c_BadGauge
  | .DuplicateGauge => A.c_DuplicateGauge
  | .UnknownGauge => A.c_UnknownGauge
  | .MissingReading => A.c_MissingReading
  | .BadLimit => A.c_BadLimit
  | .Keeper => A.c_Keeper
  | .Gauge => A.c_Gauge
  | .CoarseGauge => A.c_CoarseGauge
  | .LateGauge => A.c_LateGauge
  | .LateCoarseGauge => A.c_LateCoarseGauge
  | .Rack => A.c_Rack
  | _ => 0⟩
structure Txt (K : PySem.W.Frag) (mg : Str → Option Value) (A : Ad) : Prop where
  g_take : DefAt K mg "_law_take" s_take ["_law_box_here", "_law_many"] A.f_take
  g_box : DefAt K mg "_law_box" s_box ["_law_script", "_law_salt"] A.f_box
  g_word : DefAt K mg "_law_word" s_word ["_law_number", "_law_many", "_law_back"] A.f_word
  g_words : DefAt K mg "_law_words" s_words ["_law_box_here", "_law_many"] A.f_words
  g_m_is_gauge_name : DefAt K mg "is_gauge_name" s_m_is_gauge_name ["name"] A.f_m_is_gauge_name
  d_BadGauge_init : DefM K "__init__" "BadGauge.__init__" s_BadGauge_init ["self", "name"] A.f_BadGauge_init
  xi_BadGauge : PySem.W.findIn K (.ref A.c_BadGauge) "__init__" = some (some (.ref A.f_BadGauge_init))
  xt_BadGauge : PySem.W.typeIn K (.ref A.f_BadGauge_init) = some (.type "function")
  d_Gauge_init : DefM K "__init__" "Gauge.__init__" s_Gauge_init ["self", "name", "radius"] A.f_Gauge_init
  m_Gauge : Mk K A.c_Gauge A.f_Gauge_init
  dk_CoarseGauge_init : DefK K "__init__" "CoarseGauge.__init__" s_CoarseGauge_init ["self", "name", "radius", "step"] 3 ["step"] A.f_CoarseGauge_init
  m_CoarseGauge : Mk K A.c_CoarseGauge A.f_CoarseGauge_init
  dk_LateGauge_init : DefK K "__init__" "LateGauge.__init__" s_LateGauge_init ["self", "name", "radius", "late", "pace"] 3 ["late", "pace"] A.f_LateGauge_init
  m_LateGauge : Mk K A.c_LateGauge A.f_LateGauge_init
  dk_LateCoarseGauge_init : DefKR K "__init__" "LateCoarseGauge.__init__" s_LateCoarseGauge_init ["self", "name", "radius", "step", "late", "pace"] 3 ["step", "late", "pace"] ["pace", "step", "late"] A.f_LateCoarseGauge_init
  m_LateCoarseGauge : Mk K A.c_LateCoarseGauge A.f_LateCoarseGauge_init
  g_specs : DefAt K mg "_law_specs" s_specs ["_law_box_here", "_law_words_here"] A.f_specs
  g_gauge : DefAt K mg "_law_gauge" s_gauge ["_law_spec"] A.f_gauge
  g_gauges : DefAt K mg "_law_gauges" s_gauges ["_law_specs_here"] A.f_gauges
  g_slacks : DefAt K mg "_law_slacks" s_slacks ["_law_spec"] A.f_slacks
  d_Gauge_slack_below : DefM K "slack_below" "Gauge.slack_below" s_Gauge_slack_below ["self"] A.f_Gauge_slack_below
  m_Gauge_slack_below : Meth K A.c_Gauge "slack_below" A.f_Gauge_slack_below
  d_Gauge_slack_above : DefM K "slack_above" "Gauge.slack_above" s_Gauge_slack_above ["self"] A.f_Gauge_slack_above
  m_Gauge_slack_above : Meth K A.c_Gauge "slack_above" A.f_Gauge_slack_above
  su_CoarseGauge_slack_above : ∃ cc cda, DefSup K "slack_above" "CoarseGauge.slack_above" s_CoarseGauge_slack_above A.f_CoarseGauge_slack_above A.c_CoarseGauge cc cda
  sm_CoarseGauge_slack_above_CoarseGauge : SupM K A.c_CoarseGauge A.c_CoarseGauge "slack_above" A.f_Gauge_slack_above
  sm_CoarseGauge_slack_above_LateCoarseGauge : SupM K A.c_LateCoarseGauge A.c_CoarseGauge "slack_above" A.f_Gauge_slack_above
  m_CoarseGauge_slack_above : Meth K A.c_CoarseGauge "slack_above" A.f_CoarseGauge_slack_above
  su_LateGauge_slack_below : ∃ cc cda, DefSup K "slack_below" "LateGauge.slack_below" s_LateGauge_slack_below A.f_LateGauge_slack_below A.c_LateGauge cc cda
  sm_LateGauge_slack_below_LateGauge : SupM K A.c_LateGauge A.c_LateGauge "slack_below" A.f_Gauge_slack_below
  sm_LateGauge_slack_below_LateCoarseGauge : SupM K A.c_LateCoarseGauge A.c_LateGauge "slack_below" A.f_Gauge_slack_below
  m_LateGauge_slack_below : Meth K A.c_LateGauge "slack_below" A.f_LateGauge_slack_below
  su_LateGauge_slack_above : ∃ cc cda, DefSup K "slack_above" "LateGauge.slack_above" s_LateGauge_slack_above A.f_LateGauge_slack_above A.c_LateGauge cc cda
  sm_LateGauge_slack_above_LateGauge : SupM K A.c_LateGauge A.c_LateGauge "slack_above" A.f_Gauge_slack_above
  sm_LateGauge_slack_above_LateCoarseGauge : SupM K A.c_LateCoarseGauge A.c_LateGauge "slack_above" A.f_CoarseGauge_slack_above
  m_LateGauge_slack_above : Meth K A.c_LateGauge "slack_above" A.f_LateGauge_slack_above
  d_DuplicateGauge_init : DefM K "__init__" "DuplicateGauge.__init__" s_DuplicateGauge_init ["self", "name"] A.f_DuplicateGauge_init
  xi_DuplicateGauge : PySem.W.findIn K (.ref A.c_DuplicateGauge) "__init__" = some (some (.ref A.f_DuplicateGauge_init))
  xt_DuplicateGauge : PySem.W.typeIn K (.ref A.f_DuplicateGauge_init) = some (.type "function")
  d_UnknownGauge_init : DefM K "__init__" "UnknownGauge.__init__" s_UnknownGauge_init ["self", "name"] A.f_UnknownGauge_init
  xi_UnknownGauge : PySem.W.findIn K (.ref A.c_UnknownGauge) "__init__" = some (some (.ref A.f_UnknownGauge_init))
  xt_UnknownGauge : PySem.W.typeIn K (.ref A.f_UnknownGauge_init) = some (.type "function")
  d_Rack_names : DefM K "names" "Rack.names" s_Rack_names ["self"] A.f_Rack_names
  m_Rack_names : Meth K A.c_Rack "names" A.f_Rack_names
  d_Rack_contains : DefM K "__contains__" "Rack.__contains__" s_Rack_contains ["self", "x"] A.f_Rack_contains
  m_Rack_contains : Meth K A.c_Rack "__contains__" A.f_Rack_contains
  d_Rack_gauge : DefM K "gauge" "Rack.gauge" s_Rack_gauge ["self", "name"] A.f_Rack_gauge
  m_Rack_gauge : Meth K A.c_Rack "gauge" A.f_Rack_gauge
  d_Rack_faults : DefM K "faults" "Rack.faults" s_Rack_faults ["self"] A.f_Rack_faults
  m_Rack_faults : Meth K A.c_Rack "faults" A.f_Rack_faults
  d_Rack_refuse_unknown : DefM K "_refuse_unknown" "Rack._refuse_unknown" s_Rack_refuse_unknown ["self", "names"] A.f_Rack_refuse_unknown
  m_Rack_refuse_unknown : Meth K A.c_Rack "_refuse_unknown" A.f_Rack_refuse_unknown
  g_m_faults_of : DefAt K mg "_faults_of" s_m_faults_of ["names", "together"] A.f_m_faults_of
  em_Rack_init : ∀ H, L2.SqT K H A.k_em_Rack_init []
  sk_Rack_init : DefSK K "__init__" "Rack.__init__" s_Rack_init "self" "gauges" "together" (V.ref A.k_em_Rack_init) A.f_Rack_init
  m_Rack : Mk K A.c_Rack A.f_Rack_init
  r_Rack : ClX.CRead K A.c_Rack (.type "type")
  q_Rack_of : ∃ p, ClX.CMet K A.c_Rack (.type "type") "of" p A.f_Rack_of
  em_Rack_of : ∀ H, L2.SqT K H A.k_em_Rack_of []
  dd_Rack_of : DefD K "of" "Rack.of" s_Rack_of ["cls", "gauges", "together"] (V.ref A.k_em_Rack_of) A.f_Rack_of
  g_m_without : DefAt K mg "_without" s_m_without ["names", "name"] A.f_m_without
  g_m_farthest : DefAt K mg "_farthest" s_m_farthest ["kept", "readings"] A.f_m_farthest
  d_MissingReading_init : DefM K "__init__" "MissingReading.__init__" s_MissingReading_init ["self", "name"] A.f_MissingReading_init
  xi_MissingReading : PySem.W.findIn K (.ref A.c_MissingReading) "__init__" = some (some (.ref A.f_MissingReading_init))
  xt_MissingReading : PySem.W.typeIn K (.ref A.f_MissingReading_init) = some (.type "function")
  d_NoLevel_init : DefM K "__init__" "NoLevel.__init__" s_NoLevel_init ["self"] A.f_NoLevel_init
  xi_NoLevel : PySem.W.findIn K (.ref A.c_NoLevel) "__init__" = some (some (.ref A.f_NoLevel_init))
  xt_NoLevel : PySem.W.typeIn K (.ref A.f_NoLevel_init) = some (.type "function")
  d_BadLimit_init : DefM K "__init__" "BadLimit.__init__" s_BadLimit_init ["self", "number"] A.f_BadLimit_init
  xi_BadLimit : PySem.W.findIn K (.ref A.c_BadLimit) "__init__" = some (some (.ref A.f_BadLimit_init))
  xt_BadLimit : PySem.W.typeIn K (.ref A.f_BadLimit_init) = some (.type "function")
  g_m_refuse_limit : DefAt K mg "_refuse_limit" s_m_refuse_limit ["limit"] A.f_m_refuse_limit
  d_Keeper_init : DefM K "__init__" "Keeper.__init__" s_Keeper_init ["self", "rack", "limit"] A.f_Keeper_init
  m_Keeper : Mk K A.c_Keeper A.f_Keeper_init
  d_Keeper_kept : DefM K "kept" "Keeper.kept" s_Keeper_kept ["self"] A.f_Keeper_kept
  m_Keeper_kept : Meth K A.c_Keeper "kept" A.f_Keeper_kept
  d_Keeper_dropped : DefM K "dropped" "Keeper.dropped" s_Keeper_dropped ["self"] A.f_Keeper_dropped
  m_Keeper_dropped : Meth K A.c_Keeper "dropped" A.f_Keeper_dropped
  d_Keeper_take : DefM K "take" "Keeper.take" s_Keeper_take ["self", "readings"] A.f_Keeper_take
  m_Keeper_take : Meth K A.c_Keeper "take" A.f_Keeper_take
  p_Keeper_limit : ∃ p, PropOf K A.c_Keeper "limit" p A.f_Keeper_limit
  d_Keeper_limit : DefM K "limit" "Keeper.limit" s_Keeper_limit ["self"] A.f_Keeper_limit
  ps_Keeper_limit : ∃ p, PropSet K A.c_Keeper "limit" p A.f_Keeper_limit__set
  d_Keeper_limit__set : DefM K "limit" "Keeper.limit" s_Keeper_limit__set ["self", "limit"] A.f_Keeper_limit__set
  d_Keeper_change : DefM K "change" "Keeper.change" s_Keeper_change ["self", "limit"] A.f_Keeper_change
  m_Keeper_change : Meth K A.c_Keeper "change" A.f_Keeper_change
  g_spot : DefAt K mg "_law_spot" s_spot ["_law_box_here"] A.f_spot
  g_shown : DefAt K mg "_law_shown" s_shown ["_law_box_here", "_law_spec", "_law_spot_here"] A.f_shown
  g_lie : DefAt K mg "_law_lie" s_lie ["_law_box_here", "_law_spot_here"] A.f_lie
  g_farthest : DefAt K mg "_law_farthest" s_farthest ["_law_kept", "_law_readings"] A.f_farthest
  g_tick : DefAt K mg "_law_tick" s_tick ["_law_box_here", "_law_specs_here", "_law_lot", "_law_spot_here"] A.f_tick
  g_few : DefAt K mg "_law_few" s_few ["_law_box_here", "_law_words_here"] A.f_few
  g_refused : DefAt K mg "_law_refused" s_refused ["_law_rack", "_law_keeper", "_law_worth"] A.f_refused
  g_take_told : DefAt K mg "_law_take_told" s_take_told ["_law_keeper", "_law_readings"] A.f_take_told
  g_law : DefAt K mg "law" s_law ["_law_script"] A.f_law
  c_GaugeError : mg "GaugeError" = some (.ref A.c_GaugeError)
  ge : GeT K mg A.c_GaugeError
  c_NoLevel : mg "NoLevel" = some (.ref A.c_NoLevel)
  xo_NoLevel : OexC K A.c_NoLevel
  xf_NoLevel : XfC K A.c_NoLevel
  xm_NoLevel_NoLevel : PySem.W.exmOne K (.ref A.c_NoLevel) (.ref A.c_NoLevel) = some true
  c_Apart : mg "Apart" = some (.ref A.c_Apart)
  xo_Apart : OexC K A.c_Apart
  xf_Apart : XfC K A.c_Apart
  n_Apart_first : PySem.W.findIn K (.ref A.c_Apart) "first" = some none
  n_Apart_second : PySem.W.findIn K (.ref A.c_Apart) "second" = some none
  xm_Apart_NoLevel : PySem.W.exmOne K (.ref A.c_Apart) (.ref A.c_NoLevel) = some true
  c_BadLiars : mg "BadLiars" = some (.ref A.c_BadLiars)
  xo_BadLiars : OexC K A.c_BadLiars
  xf_BadLiars : XfC K A.c_BadLiars
  n_BadLiars_number : PySem.W.findIn K (.ref A.c_BadLiars) "number" = some none
  c_BadGauge : mg "BadGauge" = some (.ref A.c_BadGauge)
  xo_BadGauge : OexC K A.c_BadGauge
  xf_BadGauge : XfC K A.c_BadGauge
  n_BadGauge_name : PySem.W.findIn K (.ref A.c_BadGauge) "name" = some none
  c_DuplicateGauge : mg "DuplicateGauge" = some (.ref A.c_DuplicateGauge)
  xo_DuplicateGauge : OexC K A.c_DuplicateGauge
  xf_DuplicateGauge : XfC K A.c_DuplicateGauge
  n_DuplicateGauge_name : PySem.W.findIn K (.ref A.c_DuplicateGauge) "name" = some none
  c_UnknownGauge : mg "UnknownGauge" = some (.ref A.c_UnknownGauge)
  xo_UnknownGauge : OexC K A.c_UnknownGauge
  xf_UnknownGauge : XfC K A.c_UnknownGauge
  n_UnknownGauge_name : PySem.W.findIn K (.ref A.c_UnknownGauge) "name" = some none
  c_MissingReading : mg "MissingReading" = some (.ref A.c_MissingReading)
  xo_MissingReading : OexC K A.c_MissingReading
  xf_MissingReading : XfC K A.c_MissingReading
  n_MissingReading_name : PySem.W.findIn K (.ref A.c_MissingReading) "name" = some none
  xm_MissingReading_MissingReading : PySem.W.exmOne K (.ref A.c_MissingReading) (.ref A.c_MissingReading) = some true
  c_BadLimit : mg "BadLimit" = some (.ref A.c_BadLimit)
  xo_BadLimit : OexC K A.c_BadLimit
  xf_BadLimit : XfC K A.c_BadLimit
  n_BadLimit_number : PySem.W.findIn K (.ref A.c_BadLimit) "number" = some none
  xm_BadLimit_BadLimit : PySem.W.exmOne K (.ref A.c_BadLimit) (.ref A.c_BadLimit) = some true
  c_Keeper : mg "Keeper" = some (.ref A.c_Keeper)
  cl_Keeper : Cls K A.c_Keeper
  is_Keeper : IsT K A.c_Keeper
  n_Keeper__limit : NoAttr K A.c_Keeper "_limit"
  n_Keeper__kept : NoAttr K A.c_Keeper "_kept"
  n_Keeper__dropped : NoAttr K A.c_Keeper "_dropped"
  c_Gauge : mg "Gauge" = some (.ref A.c_Gauge)
  cl_Gauge : Cls K A.c_Gauge
  is_Gauge : IsT K A.c_Gauge
  n_Gauge_name : NoAttr K A.c_Gauge "name"
  n_Gauge_radius : NoAttr K A.c_Gauge "radius"
  n_Gauge_step : NoAttr K A.c_Gauge "step"
  n_Gauge_late : NoAttr K A.c_Gauge "late"
  n_Gauge_pace : NoAttr K A.c_Gauge "pace"
  c_CoarseGauge : mg "CoarseGauge" = some (.ref A.c_CoarseGauge)
  cl_CoarseGauge : Cls K A.c_CoarseGauge
  is_CoarseGauge : IsT K A.c_CoarseGauge
  n_CoarseGauge_name : NoAttr K A.c_CoarseGauge "name"
  n_CoarseGauge_radius : NoAttr K A.c_CoarseGauge "radius"
  n_CoarseGauge_step : NoAttr K A.c_CoarseGauge "step"
  n_CoarseGauge_late : NoAttr K A.c_CoarseGauge "late"
  n_CoarseGauge_pace : NoAttr K A.c_CoarseGauge "pace"
  c_LateGauge : mg "LateGauge" = some (.ref A.c_LateGauge)
  cl_LateGauge : Cls K A.c_LateGauge
  is_LateGauge : IsT K A.c_LateGauge
  n_LateGauge_name : NoAttr K A.c_LateGauge "name"
  n_LateGauge_radius : NoAttr K A.c_LateGauge "radius"
  n_LateGauge_step : NoAttr K A.c_LateGauge "step"
  n_LateGauge_late : NoAttr K A.c_LateGauge "late"
  n_LateGauge_pace : NoAttr K A.c_LateGauge "pace"
  c_LateCoarseGauge : mg "LateCoarseGauge" = some (.ref A.c_LateCoarseGauge)
  cl_LateCoarseGauge : Cls K A.c_LateCoarseGauge
  is_LateCoarseGauge : IsT K A.c_LateCoarseGauge
  n_LateCoarseGauge_name : NoAttr K A.c_LateCoarseGauge "name"
  n_LateCoarseGauge_radius : NoAttr K A.c_LateCoarseGauge "radius"
  n_LateCoarseGauge_step : NoAttr K A.c_LateCoarseGauge "step"
  n_LateCoarseGauge_late : NoAttr K A.c_LateCoarseGauge "late"
  n_LateCoarseGauge_pace : NoAttr K A.c_LateCoarseGauge "pace"
  c_Rack : mg "Rack" = some (.ref A.c_Rack)
  cl_Rack : Cls K A.c_Rack
  is_Rack : IsT K A.c_Rack
  n_Rack__gauges : NoAttr K A.c_Rack "_gauges"
  n_Rack__faults : NoAttr K A.c_Rack "_faults"
  xm_NoLevel_MissingReading : PySem.W.exmOne K (.ref A.c_NoLevel) (.ref A.c_MissingReading) = some false
  ec_BadLimit : ExcC K A.c_BadLimit
  kit_BadLimit_BadLiars : PySem.W.kitOne K (.ref A.c_BadLimit) (.ref A.c_BadLiars) = some false
  kit_BadLimit_GaugeError : PySem.W.kitOne K (.ref A.c_BadLimit) (.ref A.c_GaugeError) = some true
  ec_MissingReading : ExcC K A.c_MissingReading
  kit_MissingReading_UnknownGauge : PySem.W.kitOne K (.ref A.c_MissingReading) (.ref A.c_UnknownGauge) = some false
  ec_NoLevel : ExcC K A.c_NoLevel
  kit_NoLevel_Apart : PySem.W.kitOne K (.ref A.c_NoLevel) (.ref A.c_Apart) = some false
  cli_CoarseGauge : CliT K A.c_CoarseGauge A.f_CoarseGauge_init
  cli_Gauge : CliT K A.c_Gauge A.f_Gauge_init
  cli_LateGauge : CliT K A.c_LateGauge A.f_LateGauge_init
  kg_BARRED : ∃ u, mg "BARRED" = some u ∧ L2.RelV (V.ref A.k_BARRED) u
  kt_BARRED : ∀ H, L2.SqT K H A.k_BARRED ([("rank" : Str), ("trim" : Str), ("weigh" : Str), ("together" : Str)].map V.str)
  kg_LETTERS : ∃ u, mg "LETTERS" = some u ∧ L2.RelV (V.str "abcdefghijklmnopqrstuvwxyz") u
  r_Gauge : ClX.CRead K A.c_Gauge (.type "type")
  kc_Gauge_LONGEST : ∃ u, ClX.CVal K A.c_Gauge (.type "type") "LONGEST" (.int 12) u
  gc_Gauge : ∃ u, mg "Gauge" = some u ∧ L2.RelV (V.ref A.c_Gauge) u
  z_abs : mg "abs" = none
  z_all : mg "all" = none
  z_int : mg "int" = none
  z_isinstance : mg "isinstance" = none
  z_len : mg "len" = none
  z_list : mg "list" = none
  z_max : mg "max" = none
  z_range : mg "range" = none
  z_sorted : mg "sorted" = none
  z_str : mg "str" = none
  z_super : mg "super" = none
  z_tuple : mg "tuple" = none
theorem rackT {K : PySem.W.Frag} {mg : Str → Option Value} {A : Ad} (tx : Txt K mg A) : RackT (bs K A) := ⟨tx.cl_Rack, tx.n_Rack__gauges, tx.n_Rack__faults⟩
theorem gauT {K : PySem.W.Frag} {mg : Str → Option Value} {A : Ad} (tx : Txt K mg A) : GauT (bs K A) := ⟨fun k => match k with | .pl => tx.cl_Gauge | .co => tx.cl_CoarseGauge | .la => tx.cl_LateGauge | .lc => tx.cl_LateCoarseGauge, fun k => match k with | .pl => tx.n_Gauge_name | .co => tx.n_CoarseGauge_name | .la => tx.n_LateGauge_name | .lc => tx.n_LateCoarseGauge_name, fun k => match k with | .pl => tx.n_Gauge_radius | .co => tx.n_CoarseGauge_radius | .la => tx.n_LateGauge_radius | .lc => tx.n_LateCoarseGauge_radius, fun k => match k with | .pl => tx.n_Gauge_step | .co => tx.n_CoarseGauge_step | .la => tx.n_LateGauge_step | .lc => tx.n_LateCoarseGauge_step, fun k => match k with | .pl => tx.n_Gauge_late | .co => tx.n_CoarseGauge_late | .la => tx.n_LateGauge_late | .lc => tx.n_LateCoarseGauge_late, fun k => match k with | .pl => tx.n_Gauge_pace | .co => tx.n_CoarseGauge_pace | .la => tx.n_LateGauge_pace | .lc => tx.n_LateCoarseGauge_pace⟩
local macro_rules | `(tactic| walk_at "good") => `(tactic| first | exact trivial | exact ⟨trivial, trivial⟩ | exact fun _ _ => trivial | exact fun _ _ => ⟨trivial, trivial⟩ | exact ⟨trivial, trivial, trivial⟩ | exact ⟨⟨trivial, trivial⟩, ⟨trivial, trivial⟩, trivial, trivial⟩ | exact ⟨strOk_of _, trivial⟩ | exact ⟨strOk_of _, trivial, trivial⟩ | assumption | (show PyData.strOk _ = true; walk_at "strok"))
local macro_rules | `(tactic| walk_at "len") => `(tactic| ((try dsimp only); (try simp only [Str.length_append, emp_len]); (try rw [show (Str.ofString "Stretch(").length = 8 by decide]); (try rw [show (Str.ofString ", ").length = 2 by decide]); (try rw [show (Str.ofString ")").length = 1 by decide]); (try rw [show (Str.ofString "..").length = 2 by decide]); (try rw [show (Str.ofString "none").length = 4 by decide]); (try rw [show (Str.ofString "Levels(").length = 7 by decide]); omega))
local macro_rules | `(tactic| walk_at "strok") => `(tactic| repeat (first | exact strOk_of _ | exact strOk_emp | assumption | apply strOk_app))
local macro_rules | `(tactic| walk_at "frz") => `(tactic| repeat (first | exact .nil | apply Frz.own (by simp) | apply Frz.same))
local macro_rules | `(tactic| walk_at "hx") => `(tactic| first | exact hx_of (by assumption) | assumption | exact hx0)
local macro_rules | `(tactic| walk_at "g0") => `(tactic| first
  | ((with_reducible apply gd_s); first
    | ((with_reducible apply sx_set))
    | ((with_reducible apply sx_ret))
    | ((with_reducible apply sx_if))
    | ((with_reducible apply sx_next))
    | ((with_reducible apply sx_retN)))
  | ((with_reducible apply gd_var); first
    | ((with_reducible apply ev_var); (case h => exact rfl)))
  | ((with_reducible apply gd_c); first
    | ((with_reducible apply ev_int))
    | ((with_reducible apply ev_bl))
    | ((with_reducible apply ev_str))
    | ((with_reducible apply ev_non)))
  | ((with_reducible apply gd_op); first
    | ((with_reducible apply ev_opI))
    | ((with_reducible apply ev_opB))
    | ((with_reducible apply ev_eqG); (case hK => assumption))
    | ((with_reducible apply ev_neG); (case hK => assumption))
    | ((with_reducible apply ev_ixSp0); (case hK => assumption); (with_reducible apply ev_var); (case h => exact rfl))
    | ((with_reducible apply ev_ixSp1); (case hK => assumption); (with_reducible apply ev_var); (case h => exact rfl))
    | ((with_reducible apply ev_ixSp2); (case hK => assumption); (with_reducible apply ev_var); (case h => exact rfl))
    | ((with_reducible apply ev_ixSp3); (case hK => assumption); (with_reducible apply ev_var); (case h => exact rfl))
    | ((with_reducible apply ev_ixSp4); (case hK => assumption); (with_reducible apply ev_var); (case h => exact rfl))
    | ((with_reducible apply ev_ixSp5); (case hK => assumption); (with_reducible apply ev_var); (case h => exact rfl))
    | ((with_reducible apply ev_ixT3a); (case hK => assumption); (with_reducible apply ev_var); (case h => exact rfl))
    | ((with_reducible apply ev_ixT3b); (case hK => assumption); (with_reducible apply ev_var); (case h => exact rfl))
    | ((with_reducible apply ev_ixT3c); (case hK => assumption); (with_reducible apply ev_var); (case h => exact rfl))
    | ((with_reducible apply ev_ixT0); (case hK => assumption))
    | ((with_reducible apply ev_ixT1); (case hK => assumption))
    | ((with_reducible apply ev_ixL); (case hK => assumption))
    | ((with_reducible apply ev_pow); (case hc => exact ⟨by decide, by decide, by decide⟩))
    | ((with_reducible apply ev_ltP); (case hK => assumption))
    | ((with_reducible apply ev_ixO); (case hB => assumption))
    | ((with_reducible apply ev_opC))
    | ((with_reducible apply ev_cat))
    | ((with_reducible apply ev_addS))
    | ((with_reducible apply ev_inOwn); (case hB => assumption))
    | ((with_reducible apply ev_inI); (case hK => assumption))
    | ((with_reducible apply ev_inS); (case hK => assumption))
    | ((with_reducible apply ev_ixS))
    | ((with_reducible apply ev_notInI); (case hK => assumption))
    | ((with_reducible apply ev_eqO); (case hB => assumption); (case hK => exact rfl))
    | ((with_reducible apply ev_neO); (case hB => assumption); (case hK => exact rfl)))
  | ((with_reducible apply gd_un); first
    | ((with_reducible apply ev_unI)))
  | ((with_reducible apply gd_cb); first
    | ((with_reducible apply ev_len); (case hK => assumption))
    | ((with_reducible apply ev_intB); (with_reducible apply gd_op); first | (with_reducible apply ev_opB) | ((with_reducible apply ev_eqG); (case hK => assumption)))
    | ((with_reducible apply ev_intB); (with_reducible apply gd_k); (with_reducible apply ev_orV))
    | ((with_reducible apply ev_intI))
    | ((with_reducible apply ev_max2))
    | ((with_reducible apply ev_min2))
    | ((with_reducible apply ev_abs))
    | ((with_reducible apply ev_any); (case hK => assumption))
    | ((with_reducible apply ev_all); (case hK => assumption))
    | ((with_reducible apply ev_sum); (case hK => assumption))
    | ((with_reducible apply ev_minP); (case hK => assumption))
    | ((with_reducible apply ev_boolO); (case hB => assumption))
    | ((with_reducible apply ev_sortedP); (case hK => assumption))
    | ((with_reducible apply ev_sortedI); (case hK => assumption))
    | ((with_reducible apply ev_strO); (case hB => assumption))
    | ((with_reducible apply ev_lenO); (case hB => assumption))
    | ((with_reducible apply ev_strI))
    | ((with_reducible apply ev_isiGv); (case hK => assumption); (with_reducible apply ev_var); (case h => exact rfl))
    | ((with_reducible apply ev_isiO); (case hK => assumption))
    | ((with_reducible apply ev_isF); (case hB => assumption); (case hK => exact rfl)))
  | ((with_reducible apply gd_fld); first
    | ((with_reducible apply ev_low); (case hK => assumption); (case hS => exact stc_of (by assumption) (stcT (by assumption))))
    | ((with_reducible apply ev_high); (case hK => assumption); (case hS => exact stc_of (by assumption) (stcT (by assumption))))
    | ((with_reducible apply ev_gname); (case hK => assumption); (case hG => exact gau_of (by assumption) (gauT (by assumption))))
    | ((with_reducible apply ev_radius); (case hK => assumption); (case hG => exact gau_of (by assumption) (gauT (by assumption))))
    | ((with_reducible apply ev_step); (case hK => assumption); (case hG => exact gau_of (by assumption) (gauT (by assumption))))
    | ((with_reducible apply ev_late); (case hK => assumption); (case hG => exact gau_of (by assumption) (gauT (by assumption))))
    | ((with_reducible apply ev_pace); (case hK => assumption); (case hG => exact gau_of (by assumption) (gauT (by assumption))))
    | ((with_reducible apply ev_pieces); (case hK => assumption); (case hL => exact lvs_of (by assumption) (lvsT (by assumption)))))
  | ((with_reducible apply gd_call); first
    | ((with_reducible apply ev_callR); (case hB => assumption)))
  | ((with_reducible apply gd_tup); first
    | ((with_reducible apply ev_tup2))
    | ((with_reducible apply ev_tup3)))
  | ((with_reducible apply gd_lst); first
    | ((with_reducible apply ev_lst4))
    | ((with_reducible apply ev_lst)))
  | ((with_reducible apply gd_k); first
    | ((with_reducible apply ev_if))
    | ((with_reducible apply ev_andV))
    | ((with_reducible apply ev_orV))
    | ((with_reducible apply ev_notV))
    | ((with_reducible apply ev_chainP))
    | ((with_reducible apply ev_stretch); (case hB => assumption); (case hC => exact rfl))
    | ((with_reducible apply ev_stretchZ); (case hB => assumption); (case hC => exact rfl); (case hx => walk_at "hx"))
    | ((with_reducible apply ev_callZ); (case hB => assumption); (case hx => walk_at "hx"))
    | ((with_reducible apply ev_methZ); (case hB => assumption); (case hx => walk_at "hx"))
    | ((with_reducible apply ev_binI); (case hB => assumption); (case hx => walk_at "hx"))
    | ((with_reducible apply ev_binO); (case hB => assumption); (case hx => walk_at "hx"))
    | ((with_reducible apply ev_negO); (case hB => assumption); (case hx => walk_at "hx"))
    | ((with_reducible apply ev_xfI); (case hC => exact xcl_of (by assumption) rfl))
    | ((with_reducible apply ev_xfP); (case hC => exact xcl_of (by assumption) rfl))
    | ((with_reducible apply ev_makeV); (case hB => assumption); (case hi => exact rfl); (case hC => exact rfl))
    | ((with_reducible apply ev_levels); (case hB => assumption); (case hC => exact rfl))
    | ((with_reducible apply (ev_cmethZ .Stretch)); (case hB => assumption); (case hC => exact rfl); (case hx => walk_at "hx"))
    | ((with_reducible apply (ev_cmethZ .Levels)); (case hB => assumption); (case hC => exact rfl); (case hx => walk_at "hx"))
    | ((with_reducible apply ev_propZ); (case hB => assumption))
    | ((with_reducible apply ev_propX); (case hB => assumption); (case hx => walk_at "hx"))
    | ((with_reducible apply ev_joined))
    | ((with_reducible apply ev_fmtI)))
  | ((with_reducible apply gd_t); first
    | ((with_reducible apply et_test))
    | ((with_reducible apply et_B))
    | ((with_reducible apply et_not))
    | ((with_reducible apply et_and))
    | ((with_reducible apply et_or))
    | ((with_reducible apply et_yes))
    | ((with_reducible apply et_truthL); (case hK => assumption)))
  | ((with_reducible apply gd_a); first
    | ((with_reducible apply ea_nil))
    | ((with_reducible apply ea_cons)))
  | ((with_reducible apply gd_l); first
    | ((with_reducible apply el_nil))
    | ((with_reducible apply el_cons))
    | ((with_reducible apply el_starL); (case hK => assumption))
    | ((with_reducible apply el_starT); (case hK => assumption)))
  | ((with_reducible apply gd_j); first
    | ((with_reducible apply ej_nil))
    | ((with_reducible apply ej_cons)))
  | ((with_reducible apply tg_name))
  | ((with_reducible apply tj_name))
  | ((with_reducible apply tj_tup2); (case hK => assumption))
  | ((with_reducible apply tj_tup3); (case hK => assumption))
  | ((with_reducible apply eqg_in); (case h1 => decide); (case h2 => walk_at "good"); (case h3 => walk_at "good"))
  | ((with_reducible apply neg_in); (case h1 => decide); (case h2 => walk_at "good"); (case h3 => walk_at "good"))
  | ((with_reducible apply ownM_in); (case hC => exact rfl); (case hm => decide))
  | ((with_reducible apply own_in); (case hC => exact rfl))
  | ((with_reducible apply tyG_in); (case hn => exact nf_self))
  | ((with_reducible apply plnG_in))
  | ((with_reducible apply isO_self); (case hT => exact isT_of (by assumption) (by first | exact (by assumption : Txt _ _ _).is_Stretch | exact (by assumption : Txt _ _ _).is_Levels)); (case hC => exact cl_of (by assumption) rfl))
  | ((with_reducible apply chg_in); (case h1 => walk_at "g"; exact rfl))
  | (refine And.intro (by show _ ≤ 100000; first | exact Nat.le_of_ble_eq_true rfl | omega | (dsimp only; omega)) ?_)
  | (refine And.intro (show CMul _ _ from Or.inl ⟨by omega, by omega⟩) ?_)
  | (refine And.intro (show CMul _ _ from Or.inr ⟨by omega, by omega⟩) ?_)
  | (refine And.intro (show CDiv _ _ from ⟨by omega, by omega⟩) ?_)
  | (refine And.intro (show (0 : Int) < _ by omega) ?_)
  | (refine And.intro (by assumption : Small _) ?_)
  | (refine And.intro (show Small _ from Small.of (by omega) (by omega)) ?_)
  | (refine And.intro (by show _ ≤ 1000000; walk_at "len") ?_)
  | fail)
local macro_rules | `(tactic| walk_at "g1") => `(tactic| first | ((with_reducible apply gd_set); (conv => arg 3; dsimp only [List.set])) | (with_reducible apply sx_seq) | walk_at "g0")
local macro_rules | `(tactic| walk_at "s1") => `(tactic| first | ((with_reducible apply gd_set); (conv => arg 3; dsimp only [List.set])) | (with_reducible apply sx_seqA) | (with_reducible apply sx_seqD) | walk_at "g0")
local macro_rules | `(tactic| walk_at "s") => `(tactic| repeat walk_at "s1")
local macro_rules | `(tactic| walk_at "g") => `(tactic| repeat walk_at "g1")
section
variable {P : Program} {w : World} {K : PySem.W.Frag} {mg : Str → Option Value} {base : Heap} {A : Ad} [MainP P]
def P_take : PT := fun rt xx ts => ∃ (m : Int), ts = [T Bx.mk, T m] ∧ (0 < m ∧ m < 1073741824 ∧ ∀ k : Int, 0 ≤ k → k < m → rt (T k))
theorem pc_take {rt : Ty → Prop} {xx : Xn → Prop} {m : Int} (h : 0 < m ∧ m < 1073741824 ∧ ∀ k : Int, 0 ≤ k → k < m → rt (T k)) : P_take rt xx [T Bx.mk, T m] := ⟨_, rfl, h⟩
theorem ok_take (tx : Txt K mg A) : FnR P w K mg base CX0 1 A.f_take (spG (bs K A) P_take) := by
  refine fnR_of tx.g_take.d sc_take (fun vs H Q E h => ?_) (fun cdv Ar outer s H vs Q E hr h => ?_)
  · exact len_ok (n := 2) (fun rt xx ts hp => by obtain ⟨_, rfl, _⟩ := hp; rfl) vs H Q E h
  · refine ⟨_, (pss_cons (ps_set (i := 2) sc_take.nd rfl (Or.inl rfl) (pe_ix (ix_listK K) (pv 0) pe_int (fun _ _ => rfl)))
        (pss_cons (ps_if (PW.pt (pw_and (pt_cmpR (op_eqDK K (huD hr)) (pe_ix (ix_listK K) (pv 0) pe_int (fun _ _ => rfl)) pe_int (nomark _)) (pw_and (pt_cmpR op_lt (pe_ix (ix_listK K) (pv 0) pe_int (fun _ _ => rfl)) (pe_callB (call_lenK K) (by rfl) tx.z_len PySem.boot_len (pa_cons (pv 2) pa_nil)) (nomark _)) (pw_and1 (pt_cmpR op_gt (pe_ix (ix_listK K) (pv 2) (pe_ix (ix_listK K) (pv 0) pe_int (fun _ _ => rfl)) (fun _ _ => rfl)) (pe_op op_pow pe_int pe_int) (nomark _)))))) (pss_cons (ps_asg (pe_op op_sub (pe_ix (ix_listK K) (pv 2) (pe_ix (ix_listK K) (pv 0) pe_int (fun _ _ => rfl)) (fun _ _ => rfl)) (pe_op op_pow pe_int pe_int)) (pg_sub (pv 0) pe_int set_list))
        (pss_one (ps_asg (pe_op op_add (pe_ix (ix_listK K) (pv 0) pe_int (fun _ _ => rfl)) pe_int) (pg_sub (pv 0) pe_int set_list)))) pss_nil)
        (pss_cons (ps_if (pt_cmpR op_gt (pe_ix (ix_listK K) (pv 0) pe_int (fun _ _ => rfl)) pe_int (nomark _)) (pss_cons (ps_set (i := 3) sc_take.nd rfl (Or.inl rfl) (pe_op op_mod (pe_callTy call_int1 (by rfl) tx.z_int (by decide +kernel) (pa_cons (pe_ix (ix_listK K) (pv 0) pe_int (fun _ _ => rfl)) pa_nil)) (pv 1)))
        (pss_cons (ps_asg (pe_op op_fdiv (pe_callTy call_int1 (by rfl) tx.z_int (by decide +kernel) (pa_cons (pe_ix (ix_listK K) (pv 0) pe_int (fun _ _ => rfl)) pa_nil)) (pv 1)) (pg_sub (pv 0) pe_int set_list))
        (pss_one (ps_ret (pv 3))))) pss_nil)
        (pss_cons (ps_set (i := 4) sc_take.nd rfl (Or.inl rfl) pe_int)
        (pss_cons (ps_if (pt_cmpR op_lt (pe_ix (ix_listK K) (pv 0) pe_int (fun _ _ => rfl)) (pe_callB (call_lenK K) (by rfl) tx.z_len PySem.boot_len (pa_cons (pv 2) pa_nil)) (nomark _)) (pss_one (ps_set (i := 4) sc_take.nd rfl (Or.inl rfl) (pe_callTy call_int1 (by rfl) tx.z_int (by decide +kernel) (pa_cons (pe_ix (ix_listK K) (pv 2) (pe_ix (ix_listK K) (pv 0) pe_int (fun _ _ => rfl)) (fun _ _ => rfl)) pa_nil)))) pss_nil)
        (pss_cons (ps_asg (pe_op op_add (pe_ix (ix_listK K) (pv 0) pe_int (fun _ _ => rfl)) pe_int) (pg_sub (pv 0) pe_int set_list))
        (pss_cons (ps_asg (pe_op op_mod (pe_callTy call_int1 (by rfl) tx.z_int (by decide +kernel) (pa_cons (pe_op op_add (pe_op op_add (pe_op op_mul (pe_ix (ix_listK K) (pv 0) pe_int (fun _ _ => rfl)) pe_int) (pe_op op_mul (pv 4) pe_int)) (pe_ix (ix_listK K) (pv 0) pe_int (fun _ _ => rfl))) pa_nil)) pe_int) (pg_sub (pv 0) pe_int set_list))
        (pss_one (ps_ret (pe_op op_mod (pe_op op_mod (pe_callTy call_int1 (by rfl) tx.z_int (by decide +kernel) (pa_cons (pe_op op_add (pe_op op_mul (pe_op op_fdiv (pe_ix (ix_listK K) (pv 0) pe_int (fun _ _ => rfl)) pe_int) pe_int) (pe_op op_mod (pe_callTy call_int1 (by rfl) tx.z_int (by decide +kernel) (pa_cons (pe_ix (ix_listK K) (pv 0) pe_int (fun _ _ => rfl)) pa_nil)) pe_int)) pa_nil)) pe_int) (pv 1))))))))))), ?_⟩
    try dsimp only [cxOf, Cx.nox]
    obtain ⟨W, ts, rt, xx, hB, ho, d, ⟨m, rfl, hm0, hm1, hk⟩, hq, hx⟩ := h
    cases d with
    | cons db d2 =>
    cases d2 with
    | cons dm d3 =>
    cases d3
    obtain ⟨b, rfl, hbx⟩ : ∃ b, _ = V.ref b ∧ W.box b := db
    obtain rfl : _ = V.int m := dm
    obtain ⟨c, ns, i, p, s, hbc, hb0, hc0, hi, hp⟩ := W.hasbox H b ho hbx
    have mb := W.boxmu b hbx
    -- the end: any state of the box will do
    have fin : ∀ (i' p' s' k : Int), 0 ≤ i' → 0 ≤ p' → 0 ≤ k → k < m → Q (.int k) (upd H b (.lst [.ref c, .int i', .int p', .int s'])) := by
      intro i' p' s' k h1 h2 h3 h4
      refine hq (.int k) _ (T k) ⟨fun a o n e => ?_, W.boxset H b c i p s i' p' s' ho hbx hb0 h1 h2⟩ rfl (hk k h3 h4)
      rw [upd_ne (fun z => n (by rw [z]; exact mb))]; exact e
    have hlen : ((ns.map V.int).length : Int) = ns.length := by rw [List.length_map]
    have cell : ∀ j : Int, 0 ≤ j → j < ns.length → ∃ z, atI (ns.map V.int) j = some (V.int z) := by
      intro j h1 h2
      obtain ⟨n, rfl⟩ : ∃ n : Nat, j = (n : Int) := ⟨j.toNat, by omega⟩
      have hn : n < ns.length := by omega
      exact ⟨ns[n], atI_nat (by rw [List.getElem?_map, List.getElem?_eq_getElem hn]; rfl)⟩
    have p18 : ((10 : Int) ^ (18 : Int).toNat) = 1000000000000000000 := by decide
    have c18 : CPow 10 18 := ⟨by decide, by decide, by decide⟩
    have modk : ∀ y : Int, 0 ≤ y % m ∧ y % m < m := fun y => ⟨Int.emod_nonneg _ (by omega), Int.emod_lt_of_pos _ hm0⟩
    refine ⟨_, rfl, b, _, 0, .ref c, rfl, rfl, .inl (.inl hb0), rfl, ?_⟩
    -- if box[2] == 0 and ..
    refine ⟨_, rfl, b, _, 2, .int p, rfl, rfl, .inl (.inl hb0), rfl, .int p, .int 0, .int p, .int 0, rfl, rfl, _, rfl, ?_⟩
    by_cases h0 : p = 0
    · refine itT (by rw [h0]; rfl) ?_
      refine ⟨_, rfl, b, _, 1, .int i, rfl, rfl, .inl (.inl hb0), rfl, _, rfl, c, _, rfl, .inl (.inl (.inl hc0)), i, _, rfl, rfl, _, rfl, ?_⟩
      -- the third test is False, or the place lies beyond: on with the cell
      have rest : ∀ cl : Int, tSeq
          (tAsg (tOp (rI0 fun i j => V.int (i + j)) (tOp (rIxL K) (tVar 0) (tC (V.int 1))) (tC (V.int 1))) (gSub (tVar 0) (tC (V.int 1)) rSetL))
          (tSeq
            (tAsg (tOp (rI (fun x j => 0 < j) fun i j => V.int (i % j)) (tCB (fun xs H Q => (∃ i, xs = [V.int i] ∧ Q (V.int i) H) ∨ ∃ k, xs = [V.bl k] ∧ Q (V.int (if k = true then 1 else 0)) H)
              (tCons (tOp (rI0 fun i j => V.int (i + j)) (tOp (rI0 fun i j => V.int (i + j)) (tOp (rI CMul fun i j => V.int (i * j)) (tOp (rIxL K) (tVar 0) (tC (V.int 3))) (tC (V.int 48271))) (tOp (rI CMul fun i j => V.int (i * j)) (tVar 4) (tC (V.int 7))))
                (tOp (rIxL K) (tVar 0) (tC (V.int 1)))) tNil)) (tC (V.int 2147483647))) (gSub (tVar 0) (tC (V.int 3)) rSetL))
            (tRet (tOp (rI (fun x j => 0 < j) fun i j => V.int (i % j)) (tOp (rI (fun x j => 0 < j) fun i j => V.int (i % j)) (tCB (fun xs H Q => (∃ i, xs = [V.int i] ∧ Q (V.int i) H) ∨ ∃ k, xs = [V.bl k] ∧ Q (V.int (if k = true then 1 else 0)) H)
              (tCons (tOp (rI0 fun i j => V.int (i + j)) (tOp (rI CMul fun i j => V.int (i * j)) (tOp (rI CDiv fun i j => V.int (i / j)) (tOp (rIxL K) (tVar 0) (tC (V.int 3))) (tC (V.int 8))) (tC (V.int 31)))
                (tOp (rI (fun x j => 0 < j) fun i j => V.int (i % j)) (tCB (fun xs H Q => (∃ i, xs = [V.int i] ∧ Q (V.int i) H) ∨ ∃ k, xs = [V.bl k] ∧ Q (V.int (if k = true then 1 else 0)) H) (tCons (tOp (rIxL K) (tVar 0) (tC (V.int 3))) tNil)) (tC (V.int 65537)))) tNil))
              (tC (V.int 1000003))) (tVar 1))))
          { nx := fun _ H' => Q .non H', rt := Q } [some (.ref b), some (.int m), some (.ref c), none, some (.int cl)] H := by
        intro cl
        refine ⟨_, rfl, b, _, 1, .int i, rfl, rfl, .inl (.inl hb0), rfl, i, 1, rfl, rfl, _, rfl, b, _, 1, 1, rfl, rfl, hb0, rfl, ?_⟩
        refine ⟨_, rfl, b, _, 3, .int s, rfl, rfl, .inl (.inl upd_same), rfl, s, 48271, rfl, rfl, .inr ⟨by decide, by decide⟩, ?_⟩
        refine ⟨_, rfl, cl, 7, rfl, rfl, .inr ⟨by decide, by decide⟩, _, _, rfl, rfl, ?_⟩
        refine ⟨_, rfl, b, _, 1, .int (i + 1), rfl, rfl, .inl (.inl upd_same), rfl, _, _, rfl, rfl, .inl ⟨_, rfl, _, 2147483647, rfl, rfl, by show (0 : Int) < 2147483647; decide, ?_⟩⟩
        refine ⟨_, rfl, b, _, 3, 3, rfl, rfl, upd_same, rfl, ?_⟩
        rw [upd_upd]
        refine ⟨_, rfl, b, _, 3, .int _, rfl, rfl, .inl (.inl upd_same), rfl, _, 8, rfl, rfl, ⟨by decide, by decide⟩, _, 31, rfl, rfl, .inr ⟨by decide, by decide⟩, ?_⟩
        refine ⟨_, rfl, b, _, 3, .int _, rfl, rfl, .inl (.inl upd_same), rfl, .inl ⟨_, rfl, _, 65537, rfl, rfl, by show (0 : Int) < 65537; decide, _, _, rfl, rfl, .inl ⟨_, rfl, _, 1000003, rfl, rfl, by show (0 : Int) < 1000003; decide, ?_⟩⟩⟩
        exact ⟨_, rfl, _, m, rfl, rfl, hm0, fin (i + 1) p _ _ (by omega) (by omega) (modk _).1 (modk _).2⟩
      -- behind the two ifs: no pending number
      have cont : ∀ σ2 : L2.St, σ2 = [some (.ref b), some (.int m), some (.ref c), none, none] → ∀ t1 : TS, ∀ t2, t2 = tSeq
          (tIfS (tTest (tOp (rI0 fun i j => V.bl (decide (j < i))) (tOp (rIxL K) (tVar 0) (tC (V.int 2))) (tC (V.int 0)))) t1 tNext)
          (tSeq (tAsg (tC (V.int 0)) (gName 4))
            (tSeq
              (tIfS (tTest (tOp (rI0 fun i j => V.bl (decide (i < j))) (tOp (rIxL K) (tVar 0) (tC (V.int 1))) (tCB (fun xs H Q => ∃ p ys, xs = [V.ref p] ∧ (SqL K H p ys ∨ SqT K H p ys) ∧ Q (V.int ↑ys.length) H) (tCons (tVar 2) tNil))))
                (tAsg (tCB (fun xs H Q => (∃ i, xs = [V.int i] ∧ Q (V.int i) H) ∨ ∃ k, xs = [V.bl k] ∧ Q (V.int (if k = true then 1 else 0)) H) (tCons (tOp (rIxL K) (tVar 2) (tOp (rIxL K) (tVar 0) (tC (V.int 1)))) tNil)) (gName 4)) tNext)
              (tSeq
          (tAsg (tOp (rI0 fun i j => V.int (i + j)) (tOp (rIxL K) (tVar 0) (tC (V.int 1))) (tC (V.int 1))) (gSub (tVar 0) (tC (V.int 1)) rSetL))
          (tSeq
            (tAsg (tOp (rI (fun x j => 0 < j) fun i j => V.int (i % j)) (tCB (fun xs H Q => (∃ i, xs = [V.int i] ∧ Q (V.int i) H) ∨ ∃ k, xs = [V.bl k] ∧ Q (V.int (if k = true then 1 else 0)) H)
              (tCons (tOp (rI0 fun i j => V.int (i + j)) (tOp (rI0 fun i j => V.int (i + j)) (tOp (rI CMul fun i j => V.int (i * j)) (tOp (rIxL K) (tVar 0) (tC (V.int 3))) (tC (V.int 48271))) (tOp (rI CMul fun i j => V.int (i * j)) (tVar 4) (tC (V.int 7))))
                (tOp (rIxL K) (tVar 0) (tC (V.int 1)))) tNil)) (tC (V.int 2147483647))) (gSub (tVar 0) (tC (V.int 3)) rSetL))
            (tRet (tOp (rI (fun x j => 0 < j) fun i j => V.int (i % j)) (tOp (rI (fun x j => 0 < j) fun i j => V.int (i % j)) (tCB (fun xs H Q => (∃ i, xs = [V.int i] ∧ Q (V.int i) H) ∨ ∃ k, xs = [V.bl k] ∧ Q (V.int (if k = true then 1 else 0)) H)
              (tCons (tOp (rI0 fun i j => V.int (i + j)) (tOp (rI CMul fun i j => V.int (i * j)) (tOp (rI CDiv fun i j => V.int (i / j)) (tOp (rIxL K) (tVar 0) (tC (V.int 3))) (tC (V.int 8))) (tC (V.int 31)))
                (tOp (rI (fun x j => 0 < j) fun i j => V.int (i % j)) (tCB (fun xs H Q => (∃ i, xs = [V.int i] ∧ Q (V.int i) H) ∨ ∃ k, xs = [V.bl k] ∧ Q (V.int (if k = true then 1 else 0)) H) (tCons (tOp (rIxL K) (tVar 0) (tC (V.int 3))) tNil)) (tC (V.int 65537)))) tNil))
              (tC (V.int 1000003))) (tVar 1))))))) → t2 { nx := fun _ H' => Q .non H', rt := Q } σ2 H := by
        intro σ2 e t1 t2 e2
        subst e
        subst e2
        refine ⟨_, rfl, b, _, 2, .int p, rfl, rfl, .inl (.inl hb0), rfl, p, 0, rfl, rfl, _, rfl, ?_⟩
        refine itF (decide_eq_false (by omega)) ?_
        refine ⟨_, rfl, b, _, 1, .int i, rfl, rfl, .inl (.inl hb0), rfl, _, rfl, c, _, rfl, .inl (.inl (.inl hc0)), i, _, rfl, rfl, _, rfl, ?_⟩
        by_cases h1 : i < ns.length
        · obtain ⟨z, hz⟩ := cell i hi h1
          refine itT (decide_eq_true (by omega)) ?_
          refine ⟨_, rfl, _, rfl, b, _, 1, .int i, rfl, rfl, .inl (.inl hb0), rfl, c, _, i, .int z, rfl, rfl, .inl (.inl hc0), hz, .inl ⟨z, rfl, ?_⟩⟩
          exact rest z
        · refine itF (decide_eq_false (by omega)) ?_
          exact rest 0
      by_cases h1 : i < ns.length
      · refine itT (decide_eq_true (by omega)) ?_
        obtain ⟨z, hz⟩ := cell i hi h1
        refine ⟨_, rfl, _, rfl, b, _, 1, .int i, rfl, rfl, .inl (.inl hb0), rfl, c, _, i, .int z, rfl, rfl, .inl (.inl hc0), hz, 10, 18, rfl, rfl, c18, z, _, rfl, rfl, _, rfl, ?_⟩
        by_cases h2 : (1000000000000000000 : Int) < z
        · -- the cell is a pending number
          refine itT (decide_eq_true (by rw [p18]; exact h2)) ?_
          refine ⟨_, rfl, _, rfl, b, _, 1, .int i, rfl, rfl, .inl (.inl hb0), rfl, c, _, i, .int z, rfl, rfl, .inl (.inl hc0), hz, 10, 18, rfl, rfl, c18, z, _, rfl, rfl, ?_⟩
          refine ⟨_, rfl, b, _, 2, 2, rfl, rfl, hb0, rfl, ?_⟩
          refine ⟨_, rfl, b, _, 1, .int i, rfl, rfl, .inl (.inl upd_same), rfl, i, 1, rfl, rfl, _, rfl, b, _, 1, 1, rfl, rfl, upd_same, rfl, ?_⟩
          rw [upd_upd]
          refine ⟨_, rfl, b, _, 2, .int _, rfl, rfl, .inl (.inl upd_same), rfl, _, 0, rfl, rfl, _, rfl, ?_⟩
          refine itT (decide_eq_true (by rw [p18]; omega)) ?_
          refine ⟨_, rfl, b, _, 2, .int _, rfl, rfl, .inl (.inl upd_same), rfl, .inl ⟨_, rfl, _, rfl, _, m, rfl, rfl, hm0, ?_⟩⟩
          refine ⟨_, rfl, b, _, 2, .int _, rfl, rfl, .inl (.inl upd_same), rfl, .inl ⟨_, rfl, _, rfl, _, m, rfl, rfl, ⟨hm0, hm1⟩, _, rfl, b, _, 2, 2, rfl, rfl, upd_same, rfl, ?_⟩⟩
          rw [upd_upd]
          refine ⟨_, rfl, fin (i + 1) _ s _ (by omega) (Int.ediv_nonneg (by rw [p18]; omega) (by omega)) (modk _).1 (modk _).2⟩
        · refine itF (decide_eq_false (by rw [p18]; exact h2)) ?_
          exact cont _ rfl _ _ rfl
      · refine itF (decide_eq_false (by omega)) ?_
        exact cont _ rfl _ _ rfl
    · refine itF (by show (p == 0) = false; simp [h0]) ?_
      refine ⟨_, rfl, b, _, 2, .int p, rfl, rfl, .inl (.inl hb0), rfl, p, 0, rfl, rfl, _, rfl, ?_⟩
      refine itT (decide_eq_true (by omega)) ?_
      refine ⟨_, rfl, b, _, 2, .int p, rfl, rfl, .inl (.inl hb0), rfl, .inl ⟨_, rfl, _, rfl, _, m, rfl, rfl, hm0, ?_⟩⟩
      refine ⟨_, rfl, b, _, 2, .int p, rfl, rfl, .inl (.inl hb0), rfl, .inl ⟨_, rfl, _, rfl, _, m, rfl, rfl, ⟨hm0, hm1⟩, _, rfl, b, _, 2, 2, rfl, rfl, hb0, rfl, ?_⟩⟩
      exact ⟨_, rfl, fin i _ s _ hi (Int.ediv_nonneg hp (by omega)) (modk _).1 (modk _).2⟩
def spBox (K : PySem.W.Frag) : Sp := fun vs H Q E => ∃ (a : Addr) (ns : List Int) (s : Int), vs = [.ref a, .int s] ∧ SqL K H a (ns.map V.int) ∧ ns.length ≤ 63 ∧
  ∀ (b c : Addr) (H' : Hp), b ≠ c → H' b = some (.lst [.ref c, .int 0, .int 0, .int s]) → H' c = some (.lst (ns.map V.int)) → Q (.ref b) H'
theorem ok_box (tx : Txt K mg A) : FnR P w K mg base CX0 1 A.f_box (spBox K) := by
  refine fnR_of tx.g_box.d sc_box (fun vs H Q E h => ?_) (fun cdv Ar outer s H vs Q E hr h => ?_)
  · obtain ⟨a, ns, s, rfl, _⟩ := h; rfl
  · refine ⟨_, (pss_one (ps_ret (pe_lst (pa_cons (pe_lc (own := [("_law_cell", 2)]) rfl sc_box.nd (pi_listK K (pe_slice (sl_listK K) (pv 0) po_none (po_some pe_int))) (blkOk_by (N := ["_law_script", "_law_salt", "_law_cell"]) (sc := defScope s_box) (by decide +kernel)) (fun _ _ _ _ _ => (pg_name (i := 2) sc_box.nd rfl (Or.inl rfl))) (fun _ _ _ _ _ => pts_nil) (fun _ _ _ _ _ => (pe_callTy call_int1 (by rfl) tx.z_int (by decide +kernel) (pa_cons (pv 2) pa_nil)))) (pa_cons pe_int (pa_cons pe_int (pa_cons (pv 1) pa_nil))))))), ?_⟩
    try dsimp only [cxOf, Cx.nox]
    obtain ⟨a, ns, s, rfl, hS, hl, k⟩ := h
    refine ⟨_, rfl, _, rfl, a, _, rfl, hS, fun p hp => ⟨p, rfl, ⟨_, .inl (.inl upd_same)⟩, fun D nD => ?_⟩⟩
    have hpD : p ≠ D := ne_of_none upd_same nD
    have hcut : cutV (ns.map V.int) none (some 63) = ns.map V.int := by
      unfold cutV
      show (List.drop 0 (ns.map V.int)).take (HT.sIx (ns.map V.int).length (ns.map V.int).length (some 63) - 0) = _
      rw [List.drop_zero]
      have e : HT.sIx (ns.map V.int).length (ns.map V.int).length (some 63) = (ns.map V.int).length := by
        rw [List.length_map]
        unfold HT.sIx
        simp
        omega
      rw [e, Nat.sub_zero, List.take_length]
    rw [hcut]
    refine lc_list (xs := ns.map V.int) (fun i H' => H' p = some (.lst (ns.map V.int)) ∧ H' D = some (.lst ((ns.take i).map V.int))) ⟨by rw [upd_ne hpD]; exact upd_same, upd_same⟩ (fun i H' _ h => .inl (.inl h.1)) ?_ ?_
    · rintro i x H' hx ⟨h1, h2⟩
      obtain ⟨z, hz, rfl⟩ : ∃ z, ns[i]? = some z ∧ x = V.int z := by
        rw [List.getElem?_map] at hx
        cases e : ns[i]? with
        | none => rw [e] at hx; cases hx
        | some z => rw [e] at hx; exact ⟨z, rfl, (Option.some.inj hx).symm⟩
      have hi := (List.getElem?_eq_some_iff.mp hz).1
      refine ⟨rfl, ?_⟩
      refine yes_then ?_
      refine ⟨_, rfl, .inl ⟨z, rfl, _, h2, ?_, ?_, ?_⟩⟩
      · exact Nat.lt_of_le_of_lt (by rw [List.length_map]; exact List.length_take_le' _ _) (Nat.lt_of_le_of_lt hl (by decide : 63 < sizeLine))
      · rw [upd_ne hpD]; exact h1
      · rw [upd_same, List.take_succ, hz, List.map_append]; rfl
    · rintro H' ⟨h1, h2⟩
      rw [List.length_map, List.take_length] at h2
      refine ⟨_, rfl, by show 4 ≤ sizeLine; decide, fun b hb => ?_⟩
      have hbD : b ≠ D := (ne_of_none h2 hb).symm
      exact k b D _ hbD upd_same (by rw [upd_ne hbD.symm]; exact h2)
def P_word : PT := fun rt xx ts => ∃ (n : Int) (m : Int) (b : Bool), ts = [T n, T m, T b] ∧ (0 ≤ n ∧ n ≤ 1000000000 ∧ 0 ≤ m ∧ m ≤ 12 ∧ rt (T (wordS n m.toNat b)))
theorem pc_word {rt : Ty → Prop} {xx : Xn → Prop} {n : Int} {m : Int} {b : Bool} (h : 0 ≤ n ∧ n ≤ 1000000000 ∧ 0 ≤ m ∧ m ≤ 12 ∧ rt (T (wordS n m.toNat b))) : P_word rt xx [T n, T m, T b] := ⟨_, _, _, rfl, h⟩
theorem ok_word (tx : Txt K mg A) : FnR P w K mg base CX0 1 A.f_word (spG (bs K A) P_word) := by
  refine fnR_of tx.g_word.d sc_word (len_ok (n := 3) fun rt xx ts hp => by obtain ⟨_, _, _, rfl, _⟩ := hp; rfl) (fun cdv Ar outer s H vs Q E hr h => ⟨_, (pss_cons (ps_set (i := 3) sc_word.nd rfl (Or.inl rfl) pe_str)
        (pss_cons (ps_for PassesOwn.never rfl (pi_range1 (by rfl) tx.z_range (pa_cons (pv 1) pa_nil)) (pg_name (i := 4) sc_word.nd rfl (Or.inl rfl)) (pss_cons (ps_set (i := 3) sc_word.nd rfl (Or.inl rfl) (pe_op op_add_str (pv 3) (pe_ix ix_str pe_str (pe_op op_mod (pe_callTy call_int1 (by rfl) tx.z_int (by decide +kernel) (pa_cons (pv 0) pa_nil)) pe_int) (fun _ _ => rfl))))
        (pss_one (ps_set (i := 0) sc_word.nd rfl (Or.inl rfl) (pe_op op_fdiv (pe_callTy call_int1 (by rfl) tx.z_int (by decide +kernel) (pa_cons (pv 0) pa_nil)) pe_int)))))
        (pss_cons (ps_if (pt_val (pv 2)) (pss_one (ps_ret (pe_revS (pv 3)))) pss_nil)
        (pss_one (ps_ret (pv 3)))))),
      body_ok (N := ["_law_number", "_law_many", "_law_back", "_law_word_here", "_law_turn"]) (fun W ts rt xx hB ho hw hp => ?_) h⟩)
  have hK : W.B.K = K := congrArg Bs.K hB
  obtain ⟨n, m, b, rfl, hp⟩ := hp
  show Sx W _ [some (T n), some (T m), some (T b), none, none] _
  obtain ⟨h1, h2, h3, h4, hp⟩ := hp
  walk_at "g"
  apply sx_forR
  walk_at "g"
  refine ⟨by omega, fun i Γ' => ∃ (ni : Int) (z : Str) (o4 : Option Ty), 0 ≤ ni ∧ ni ≤ 1000000000 ∧ z.length = i ∧ z.cps.toList ++ wordL (m.toNat - i) ni = wordL m.toNat n ∧ Γ' = [some (T ni), some (T m), some (T b), some (T z), o4], ⟨n, Str.ofString "", none, h1, h2, by decide +kernel, ?_, rfl⟩, ?_, ?_⟩
  · rw [show (Str.ofString "").cps.toList = [] by decide +kernel]
    rfl
  · rintro i Γ' hi ⟨ni, z, o4, n0, n1, zl, ze, rfl⟩
    have hi' : i < m.toNat := hi
    obtain ⟨r, hr⟩ : ∃ r, m.toNat - i = r + 1 := ⟨m.toNat - i - 1, by omega⟩
    rw [hr] at ze
    have q0 : 0 ≤ ni % 26 := Int.emod_nonneg _ (by decide)
    have q1 : ni % 26 < 26 := Int.emod_lt_of_pos _ (by decide)
    apply tg_of
    walk_at "g"
    refine ⟨_, abc_at q0 q1, by show z.length + 1 ≤ 1000000; omega, ?_⟩
    walk_at "g"
    refine ⟨ni / 26, _, _, by omega, by omega, by rw [snoc_len, zl], ?_, rfl⟩
    rw [snoc_list, List.append_assoc, show m.toNat - (i + 1) = r by omega, ← ze]
    rfl
  · rintro Γ' ⟨ni, z, o4, n0, n1, zl, ze, rfl⟩
    have hz : z.cps.toList = wordL m.toNat n := by
      rw [Nat.sub_self] at ze
      rw [← ze]
      exact (List.append_nil _).symm
    obtain ⟨w1, w2⟩ := wordS_of hz
    walk_at "g"
    refine ⟨fun hb => ?_, fun hb => ?_⟩
    · apply sx_ret
      refine ev_revS ?_
      walk_at "g"
      rw [hb, w2] at hp
      exact hp
    · walk_at "g"
      rw [hb, w1] at hp
      exact hp
def P_words : PT := fun rt xx ts => ∃ (m : Int), ts = [T Bx.mk, T m] ∧ (0 ≤ m ∧ m ≤ 16 ∧ ∀ ws : List Str, (ws.length : Int) = m → ws.Nodup → (∀ w ∈ ws, GoodW w) → rt (T ws))
theorem pc_words {rt : Ty → Prop} {xx : Xn → Prop} {m : Int} (h : 0 ≤ m ∧ m ≤ 16 ∧ ∀ ws : List Str, (ws.length : Int) = m → ws.Nodup → (∀ w ∈ ws, GoodW w) → rt (T ws)) : P_words rt xx [T Bx.mk, T m] := ⟨_, rfl, h⟩
theorem ok_words (tx : Txt K mg A) : FnR P w K mg base CX0 2 A.f_words (spG (bs K A) P_words) := by
  have G_take := ok_take (P := P) (w := w) (base := base) tx
  have G_word := ok_word (P := P) (w := w) (base := base) tx
  refine fnR_of tx.g_words.d sc_words (len_ok (n := 2) fun rt xx ts hp => by obtain ⟨_, rfl, _⟩ := hp; rfl) (fun cdv Ar outer s H vs Q E hr h => ⟨_, (pss_cons (ps_set (i := 2) sc_words.nd rfl (Or.inl rfl) (pe_lst pa_nil))
        (pss_cons (ps_set (i := 3) sc_words.nd rfl (Or.inl rfl) (pe_cmpR (op_eqDK K (huD hr)) (pe_callR G_take (room hr) rfl (tx.g_take).g (tx.g_take).kp pass0 (pa_cons (pv 0) (pa_cons pe_int pa_nil))) pe_int (nomark _)))
        (pss_cons (ps_for PassesOwn.never rfl (pi_range1 (by rfl) tx.z_range (pa_cons (pv 1) pa_nil)) (pg_name (i := 4) sc_words.nd rfl (Or.inl rfl)) (pss_cons (ps_set (i := 5) sc_words.nd rfl (Or.inl rfl) (pe_ix (ix_listK K) (pe_lst (pa_cons pe_int (pa_cons pe_int (pa_cons pe_int (pa_cons pe_int (pa_cons pe_int (pa_cons pe_int pa_nil))))))) (pe_callR G_take (room hr) rfl (tx.g_take).g (tx.g_take).kp pass0 (pa_cons (pv 0) (pa_cons pe_int pa_nil))) (fun _ _ => rfl)))
        (pss_cons (ps_set (i := 6) sc_words.nd rfl (Or.inl rfl) (pe_callR G_take (room hr) rfl (tx.g_take).g (tx.g_take).kp pass0 (pa_cons (pv 0) (pa_cons pe_int pa_nil))))
        (pss_cons (ps_set (i := 7) sc_words.nd rfl (Or.inl rfl) (pe_callR G_word (room hr) rfl (tx.g_word).g (tx.g_word).kp pass0 (pa_cons (pv 6) (pa_cons (pv 5) (pa_cons (pv 3) pa_nil)))))
        (pss_cons (ps_for PassesOwn.never rfl (pi_range1 (by rfl) tx.z_range (pa_cons pe_int pa_nil)) (pg_name (i := 8) sc_words.nd rfl (Or.inl rfl)) (pss_one (ps_if (PW.pt (pw_or (pt_cmpR (op_inSeqK K) (pv 7) (pv 2) rfl) (pw_or1 (pt_cmpR (op_inSeqK K) (pv 7) (pe_lst (pa_cons pe_str (pa_cons pe_str (pa_cons pe_str (pa_cons pe_str pa_nil))))) rfl)))) (pss_cons (ps_set (i := 6) sc_words.nd rfl (Or.inl rfl) (pe_op op_add (pv 6) pe_int))
        (pss_one (ps_set (i := 7) sc_words.nd rfl (Or.inl rfl) (pe_callR G_word (room hr) rfl (tx.g_word).g (tx.g_word).kp pass0 (pa_cons (pv 6) (pa_cons (pv 5) (pa_cons (pv 3) pa_nil))))))) pss_nil)))
        (pss_one (ps_expr (pe_appendK K (pv 2) (pa_cons (pv 7) pa_nil)))))))))
        (pss_one (ps_ret (pv 2)))))),
      body_ok (N := ["_law_box_here", "_law_many", "_law_words_here", "_law_back", "_law_turn", "_law_wide", "_law_number", "_law_word_here", "_law_again"]) (fun W ts rt xx hB ho hw hp => ?_) h⟩)
  have hK : W.B.K = K := congrArg Bs.K hB
  obtain ⟨m, rfl, hp⟩ := hp
  show Sx W _ [some (T Bx.mk), some (T m), none, none, none, none, none, none, none] _
  obtain ⟨h1, h2, hp⟩ := hp
  refine sx_own fun F => ?_
  refine sxm_seq (sxm_new (β := Str) (rβ := inferInstance) fun Wo hW => evF_lst (el_nil (α := Str) (rα := inferInstance) ⟨by decide, fun p vs => ?_⟩))
  show SxM W F _ [(p, vs)] [some (T Bx.mk), some (T m), some (T (Ol.mk p vs ([] : List Str))), none, none, none, none, none, none] _
  refine sxm_seq (sxm_pure fun Wo hW => ?_)
  have hBo : Wo.B = bs K A := hW.B.trans hB
  have hKo : Wo.B.K = K := congrArg Bs.K hBo
  walk_at "g"
  refine pc_take ⟨by decide, by decide, fun bk b0 b1 => ⟨_, rfl, ?_⟩⟩
  walk_at "g"
  generalize decide (bk = 1) = back
  show SxM W F _ [(p, vs)] [some (T Bx.mk), some (T m), some (T (Ol.mk p vs ([] : List Str))), some (T back), none, none, none, none, none] _
  refine sxm_seq (sxm_forR fun Wo2 hW2 => ?_)
  walk_at "g"
  refine ⟨by omega, fun i L' Γ' => ∃ (vs' : List V) (as : List Str) (o4 o5 o6 o7 o8 : Option Ty), L' = [(p, vs')] ∧ as.length = i ∧ as.Nodup ∧ (∀ w ∈ as, GoodW w) ∧ Γ' = [some (T Bx.mk), some (T m), some (T (Ol.mk p vs' as)), some (T back), o4, o5, o6, o7, o8], ⟨vs, [], none, none, none, none, none, rfl, rfl, List.nodup_nil, fun _ h => (nomatch h), rfl⟩, ?_, ?_⟩
  · rintro i L' Γ' hi ⟨vs', as, o4, o5, o6, o7, o8, rfl, al, an, ag, rfl⟩ Wo' hW'
    have hi' : i < m.toNat := hi
    apply tg_of
    walk_at "g"
    show SxM W F _ [(p, vs')] [some (T Bx.mk), some (T m), some (T (Ol.mk p vs' as)), some (T back), some (T (i : Int)), o5, o6, o7, o8] _
    refine sxm_seq (sxm_pure fun Wo3 hW3 => ?_)
    have hB3 : Wo3.B = bs K A := hW3.B.trans hB
    have hK3 : Wo3.B.K = K := congrArg Bs.K hB3
    apply sx_set
    refine ev_ixL (α := Int) (rα := inferInstance) hK3 ?_
    apply ev_lst
    walk_at "g"
    refine pc_take ⟨by decide, by decide, fun z z0 z1 => ⟨_, rfl, ?_⟩⟩
    have hw : ∃ w : Int, atI [1, 1, 2, 3, 5, 12] z = some w ∧ 1 ≤ w ∧ w ≤ 12 := by
      have : z = 0 ∨ z = 1 ∨ z = 2 ∨ z = 3 ∨ z = 4 ∨ z = 5 := by omega
      rcases this with rfl | rfl | rfl | rfl | rfl | rfl
      · exact ⟨1, rfl, by omega, by omega⟩
      · exact ⟨1, rfl, by omega, by omega⟩
      · exact ⟨2, rfl, by omega, by omega⟩
      · exact ⟨3, rfl, by omega, by omega⟩
      · exact ⟨5, rfl, by omega, by omega⟩
      · exact ⟨12, rfl, by omega, by omega⟩
    obtain ⟨wd, hw, w0, w1⟩ := hw
    refine ⟨wd, hw, ?_⟩
    show SxM W F _ [(p, vs')] [some (T Bx.mk), some (T m), some (T (Ol.mk p vs' as)), some (T back), some (T (i : Int)), some (T wd), o6, o7, o8] _
    refine sxm_seq (sxm_pure fun Wo4 hW4 => ?_)
    have hB4 : Wo4.B = bs K A := hW4.B.trans hB
    have hK4 : Wo4.B.K = K := congrArg Bs.K hB4
    walk_at "g"
    refine pc_take ⟨by decide, by decide, fun n n0 n1 => ⟨_, rfl, ?_⟩⟩
    show SxM W F _ [(p, vs')] [some (T Bx.mk), some (T m), some (T (Ol.mk p vs' as)), some (T back), some (T (i : Int)), some (T wd), some (T n), o7, o8] _
    refine sxm_seq (sxm_pure fun Wo5 hW5 => ?_)
    have hB5 : Wo5.B = bs K A := hW5.B.trans hB
    have hK5 : Wo5.B.K = K := congrArg Bs.K hB5
    walk_at "g"
    refine pc_word ⟨by omega, by omega, by omega, by omega, _, rfl, ?_⟩
    obtain ⟨k, rfl⟩ : ∃ k : Nat, wd = k := ⟨wd.toNat, by omega⟩
    rw [Int.toNat_natCast]
    show SxM W F _ [(p, vs')] [some (T Bx.mk), some (T m), some (T (Ol.mk p vs' as)), some (T back), some (T (i : Int)), some (T (k : Int)), some (T n), some (T (wordS n k back)), o8] _
    refine sxm_seq (sxm_forR fun Wo6 hW6 => ?_)
    walk_at "g"
    refine ⟨by omega, fun j L' Γ' => ∃ (q : Nat) (o8 : Option Ty), L' = [(p, vs')] ∧ q ≤ j ∧ ((q = j ∧ ∀ t : Nat, t < q → wordS (n + (t : Int)) k back ∈ as ++ barS) ∨ wordS (n + (q : Int)) k back ∉ as ++ barS) ∧ Γ' = [some (T Bx.mk), some (T m), some (T (Ol.mk p vs' as)), some (T back), some (T (i : Int)), some (T (k : Int)), some (T (n + (q : Int))), some (T (wordS (n + (q : Int)) k back)), o8], ⟨0, o8, rfl, Nat.le_refl _, .inl ⟨rfl, fun t ht => absurd ht (Nat.not_lt_zero _)⟩, ?_⟩, ?_, ?_⟩
    · show _ = [some (T Bx.mk), some (T m), some (T (Ol.mk p vs' as)), some (T back), some (T (i : Int)), some (T (k : Int)), some (T (n + ((0 : Nat) : Int))), some (T (wordS (n + ((0 : Nat) : Int)) k back)), o8]
      rw [show n + ((0 : Nat) : Int) = n by omega]
    · rintro j L'' Γ'' hj ⟨q, o8', rfl, hqj, hq, rfl⟩ Wo7 hW7
      have hj' : j < 20 := hj
      apply tg_of
      walk_at "g"
      show SxM W F _ [(p, vs')] [some (T Bx.mk), some (T m), some (T (Ol.mk p vs' as)), some (T back), some (T (i : Int)), some (T (k : Int)), some (T (n + (q : Int))), some (T (wordS (n + (q : Int)) k back)), some (T (j : Int))] _
      refine sxm_ifB (Γ' := [some (T Bx.mk), some (T m), some (T as), some (T back), some (T (i : Int)), some (T (k : Int)), some (T (n + (q : Int))), some (T (wordS (n + (q : Int)) k back)), some (T (j : Int))]) (by walk_at "frz") ?_
      apply et_or
      apply et_test
      refine ev_inS hK ?_
      walk_at "g"
      refine ⟨fun hi1 => ⟨fun _ => ?_, fun h => (nomatch h)⟩, fun hi1 => ?_⟩
      · have hin : wordS (n + (q : Int)) k back ∈ as ++ barS := List.mem_append_left _ (of_decide_eq_true hi1)
        have hq2 : q = j ∧ ∀ t : Nat, t < q → wordS (n + (t : Int)) k back ∈ as ++ barS := by
          rcases hq with h' | h'
          · exact h'
          · exact absurd hin h'
        obtain ⟨rfl, hall⟩ := hq2
        refine sxm_seq (sxm_pure fun Wo8 hW8 => ?_)
        have hB8 : Wo8.B = bs K A := hW8.B.trans hB
        have hK8 : Wo8.B.K = K := congrArg Bs.K hB8
        walk_at "g"
        show SxM W F _ [(p, vs')] [some (T Bx.mk), some (T m), some (T (Ol.mk p vs' as)), some (T back), some (T (i : Int)), some (T (k : Int)), some (T (n + (q : Int) + 1)), some (T (wordS (n + (q : Int)) k back)), some (T (q : Int))] _
        refine sxm_pure fun Wo9 hW9 => ?_
        have hB9 : Wo9.B = bs K A := hW9.B.trans hB
        have hK9 : Wo9.B.K = K := congrArg Bs.K hB9
        walk_at "g"
        refine pc_word ⟨by omega, by omega, by omega, by omega, _, rfl, ?_⟩
        rw [Int.toNat_natCast]
        refine ⟨q + 1, some (T (q : Int)), rfl, Nat.le_refl _, .inl ⟨rfl, fun t ht => ?_⟩, ?_⟩
        · by_cases e : t < q
          · exact hall t e
          · have e2 : t = q := by omega
            rw [e2]
            exact hin
        · rw [show n + ((q + 1 : Nat) : Int) = n + (q : Int) + 1 by omega]
          rfl
      · apply et_test
        refine ev_inS hK ?_
        walk_at "g0"
        apply ev_lst
        walk_at "g"
        refine ⟨fun hi2 => ?_, fun hi2 => ?_⟩
        · have hin : wordS (n + (q : Int)) k back ∈ as ++ barS := List.mem_append_right _ (of_decide_eq_true hi2)
          have hq2 : q = j ∧ ∀ t : Nat, t < q → wordS (n + (t : Int)) k back ∈ as ++ barS := by
            rcases hq with h' | h'
            · exact h'
            · exact absurd hin h'
          obtain ⟨rfl, hall⟩ := hq2
          refine sxm_seq (sxm_pure fun Wo8 hW8 => ?_)
          have hB8 : Wo8.B = bs K A := hW8.B.trans hB
          have hK8 : Wo8.B.K = K := congrArg Bs.K hB8
          walk_at "g"
          show SxM W F _ [(p, vs')] [some (T Bx.mk), some (T m), some (T (Ol.mk p vs' as)), some (T back), some (T (i : Int)), some (T (k : Int)), some (T (n + (q : Int) + 1)), some (T (wordS (n + (q : Int)) k back)), some (T (q : Int))] _
          refine sxm_pure fun Wo9 hW9 => ?_
          have hB9 : Wo9.B = bs K A := hW9.B.trans hB
          have hK9 : Wo9.B.K = K := congrArg Bs.K hB9
          walk_at "g"
          refine pc_word ⟨by omega, by omega, by omega, by omega, _, rfl, ?_⟩
          rw [Int.toNat_natCast]
          refine ⟨q + 1, some (T (q : Int)), rfl, Nat.le_refl _, .inl ⟨rfl, fun t ht => ?_⟩, ?_⟩
          · by_cases e : t < q
            · exact hall t e
            · have e2 : t = q := by omega
              rw [e2]
              exact hin
          · rw [show n + ((q + 1 : Nat) : Int) = n + (q : Int) + 1 by omega]
            rfl
        · refine sxm_next ⟨q, _, rfl, by omega, .inr fun hm => ?_, rfl⟩
          rcases List.mem_append.mp hm with hm | hm
          · exact (of_decide_eq_false hi1) hm
          · exact (of_decide_eq_false hi2) hm
    · rintro L'' Γ'' ⟨q, o8', rfl, hqj, hq, rfl⟩
      have hno : wordS (n + (q : Int)) k back ∉ as ++ barS := by
        rcases hq with ⟨hq, hall⟩ | hq
        · have hq : q = 20 := hq
          subst hq
          exact (words_free (by omega) (by rw [List.length_append]; show as.length + 4 < 20; omega) hall).elim
        · exact hq
      have hna : wordS (n + (q : Int)) k back ∉ as := fun h => hno (List.mem_append_left _ h)
      have hnb : wordS (n + (q : Int)) k back ∉ barS := fun h => hno (List.mem_append_right _ h)
      refine sxm_append (α := Str) (rα := inferInstance) 0 rfl rfl fun Wo8 hW8 => ?_
      walk_at "g"
      refine fun v => ⟨_, _, _, _, _, _, _, rfl, ?_, ?_, ?_, rfl⟩
      · rw [List.length_append, al]
        rfl
      · refine List.nodup_append.mpr ⟨an, by simp, fun a ha b hb e => ?_⟩
        rw [List.mem_singleton.mp hb] at e
        exact hna (e ▸ ha)
      · intro w hw
        rcases List.mem_append.mp hw with hw | hw
        · exact ag w hw
        · rw [List.mem_singleton.mp hw]
          exact ⟨by rw [wordS_len]; omega, by rw [wordS_len]; omega, wordS_az, hnb⟩
  · rintro L' Γ' ⟨vs', as, o4, o5, o6, o7, o8, rfl, al, an, ag, rfl⟩
    refine sxm_freeze (Γ' := [some (T Bx.mk), some (T m), some (T as), some (T back), o4, o5, o6, o7, o8]) (by walk_at "frz") ?_
    refine sxm_pure fun Wf hWf => ?_
    walk_at "g"
    exact hp as (by omega) an ag
def P_m_is_gauge_name : PT := fun rt xx ts => ∃ (w : Str), ts = [T w] ∧ (w.length ≤ 100000 ∧ rt (T (gnB w)))
theorem pc_m_is_gauge_name {rt : Ty → Prop} {xx : Xn → Prop} {w : Str} (h : w.length ≤ 100000 ∧ rt (T (gnB w))) : P_m_is_gauge_name rt xx [T w] := ⟨_, rfl, h⟩
theorem ok_m_is_gauge_name (tx : Txt K mg A) : FnR P w K mg base CX0 1 A.f_m_is_gauge_name (spG (bs K A) P_m_is_gauge_name) := by
  refine fnR_of tx.g_m_is_gauge_name.d sc_m_is_gauge_name (len_ok (n := 1) fun rt xx ts hp => by obtain ⟨_, rfl, _⟩ := hp; rfl) (fun cdv Ar outer s H vs Q E hr h => ⟨_, (pss_cons (ps_if (PW.pt (pw_or (pt_not (pt_val (pe_callB (call_isiKK K) (by rfl) tx.z_isinstance (by decide +kernel) (pa_cons (pv 0) (pa_cons (pe_bltn (by rfl) tx.z_str (by decide +kernel) (show RelV (.ty "str") _ from rfl)) pa_nil))))) (pw_or1 (pt_cmpR (op_inSeqK K) (pv 0) (pe_globE tx.kg_BARRED) rfl)))) (pss_one (ps_ret pe_bl)) pss_nil)
        (pss_one (ps_ret (pe_and (pe_chain op_le op_le pe_int (pe_callB call_len_str (by rfl) tx.z_len PySem.boot_len (pa_cons (pv 0) pa_nil)) (pe_cvalK K (pe_globE tx.gc_Gauge))) (pe_one (pe_callB (cr_all rfl) (by rfl) tx.z_all (by decide +kernel) (pa_cons (pe_lc (own := [("sign", 1)]) rfl sc_m_is_gauge_name.nd (pi_str (pv 0)) (blkOk_by (N := ["name", "sign"]) (sc := defScope s_m_is_gauge_name) (by decide +kernel)) (fun _ _ _ _ _ => (pg_name (i := 1) sc_m_is_gauge_name.nd rfl (Or.inl rfl))) (fun _ _ _ _ _ => pts_nil) (fun _ _ _ _ _ => (pe_cmpR op_in_sign (pv 1) (pe_globE tx.kg_LETTERS) rfl))) pa_nil))))))),
      body_ok (N := ["name", "sign"]) (fun W ts rt xx hB ho hw hp => ?_) h⟩)
  have hK : W.B.K = K := congrArg Bs.K hB
  obtain ⟨w, rfl, hp⟩ := hp
  show Sx W _ [some (T w), none] _
  obtain ⟨hl, hp⟩ := hp
  walk_at "g"
  refine ev_isi (b := true) hK (inferInstance : PyTy Str "str") (kit_ty (by decide +kernel)) ?_
  walk_at "g"
  refine ⟨fun h => (nomatch h), fun _ => ?_⟩
  apply et_test
  refine ev_inCst tx.kt_BARRED ?_
  walk_at "g"
  unfold gnB at hp
  rw [show decide (w ∈ barS) = decide (w ∈ [Str.ofString "rank", Str.ofString "trim", Str.ofString "weigh", Str.ofString "together"]) from rfl] at hp
  refine ⟨fun hb => ?_, fun hb => ?_⟩
  · rw [hb] at hp
    walk_at "g"
    exact hp
  · rw [hb] at hp
    refine sx_next ?_
    apply sx_ret
    apply ev_andV
    apply ev_chainP
    walk_at "g0"
    refine ev_lenS ?_
    walk_at "g0"
    refine ⟨hl, ?_⟩
    obtain ⟨u, hcv⟩ := tx.kc_Gauge_LONGEST
    refine chg_in (l := 12) (ev_cvalI tx.r_Gauge hcv rfl) ?_
    refine ⟨fun h1 => ?_, fun h1 => ?_⟩
    · rw [h1] at hp
      apply ev_all hK
      refine ev_lcSF (fun c => decide (c ∈ (Str.ofString "abcdefghijklmnopqrstuvwxyz").cps.toList)) ?_
      walk_at "g0"
      refine ⟨hl, fun W' sb c hc => ⟨[1], rfl, ?_⟩, hp⟩
      apply tj_name
      walk_at "g"
      refine ⟨fun _ => ?_, fun h => (nomatch h)⟩
      refine ev_inSign ?_
      walk_at "g"
      refine ⟨c, rfl, ?_⟩
      walk_at "g"
      rfl
    · rw [h1] at hp
      exact hp
theorem ok_Gauge_init (tx : Txt K mg A) : FnR P w K mg base CX0 2 A.f_Gauge_init (spGI (bs K A)) := by
  have G_m_is_gauge_name := ok_m_is_gauge_name (P := P) (w := w) (base := base) tx
  refine fnR_of tx.d_Gauge_init sc_Gauge_init (fun vs H Q E h => ?_) (fun cdv Ar outer s H vs Q E hr h => ?_)
  · obtain ⟨W, p, dx, fs, kd, nm, rd, rfl, _⟩ := h; rfl
  · refine ⟨_, (pss_cons (ps_if (PW.pt (pw_or (pt_not (pt_val (pe_callR G_m_is_gauge_name (room hr) rfl (tx.g_m_is_gauge_name).g (tx.g_m_is_gauge_name).kp pass0 (pa_cons (pv 1) pa_nil)))) (pw_or1 (pt_cmpR op_lt (pv 2) pe_int (nomark _))))) (pss_one ps_never) pss_nil)
        (pss_cons (ps_fld (pv 0) (pv 1) rfl)
        (pss_one (ps_fld (pv 0) (pv 2) rfl)))), ?_⟩
    try dsimp only [cxOf, Cx.nox]
    obtain ⟨W, p, dx, fs, kd, nm, rd, rfl, hp, hB, ho, hm, hl, hg, hn, hr0, hT, k⟩ := h
    refine ⟨_, rfl, W, [T nm], fun t => t = T true, fun _ => False, hB, ho, .cons (t := T nm) rfl .nil, pc_m_is_gauge_name ⟨hn, by rw [hg]⟩, fun v H' t e dt et => ?_, fun n d2 H2 _ _ z => z.elim⟩
    subst et
    have dt' : v = V.bl true := dt
    subst dt'
    refine ⟨true, rfl, ?_⟩
    refine itF rfl ?_
    refine ⟨_, rfl, rd, 0, rfl, rfl, _, rfl, ?_⟩
    refine itF (decide_eq_false (by omega)) ?_
    refine ⟨_, rfl, _, rfl, p, (bs K A).cl kd.cn, dx, fs, rfl, e.keep _ _ hm hp, hT.cl kd, hT.nname kd, by omega, ?_⟩
    refine ⟨_, rfl, _, rfl, p, (bs K A).cl kd.cn, dx, _, rfl, upd_same, hT.cl kd, hT.nradius kd, by have := putF_le "name" (V.str nm) fs; omega, ?_⟩
    exact k H' e
theorem ok_CoarseGauge_init (tx : Txt K mg A) : ∃ fd, FnOk P w K mg base CX0 4 A.f_CoarseGauge_init fd ["self", "name", "radius", "step"] (spCI (bs K A)) ∧ KBn K fd ["self", "name", "radius", "step"] 3 ["step"] (fun us ws => us ++ ws) (fun vs zs => vs ++ zs) := by
  have G_Gauge_init := ok_Gauge_init (P := P) (w := w) (base := base) tx
  obtain ⟨fd, F, kb⟩ := tx.dk_CoarseGauge_init.ex
  refine ⟨fd, F.ok sc_CoarseGauge_init (fun vs H Q E h => ?_) (fun cdv Ar outer s H vs Q E hr h => ?_), kb⟩
  · obtain ⟨W, p, dx, fs, kd, nm, rd, st, rfl, _⟩ := h; rfl
  · refine ⟨_, (pss_cons (ps_expr (pe_cinit (E := fun _ => E0) tx.cli_Gauge G_Gauge_init (room hr) passS0 tx.c_Gauge (pa_cons (pv 0) (pa_cons (pv 1) (pa_cons (pv 2) pa_nil)))))
        (pss_cons (ps_if (pt_cmpR op_lt (pv 3) pe_int (nomark _)) (pss_one ps_never) pss_nil)
        (pss_one (ps_fld (pv 0) (pv 3) rfl)))), ?_⟩
    try dsimp only [cxOf, Cx.nox]
    obtain ⟨W, p, dx, fs, kd, nm, rd, st, rfl, hp, hB, ho, hm, hl, hg, hn, hr0, hs0, hT, k⟩ := h
    refine ⟨_, rfl, _, rfl, _, rfl, W, p, dx, fs, kd, nm, rd, rfl, hp, hB, ho, hm, by omega, hg, hn, hr0, hT, fun H' e => ?_⟩
    refine ⟨_, rfl, st, 1, rfl, rfl, _, rfl, ?_⟩
    refine itF (decide_eq_false (by omega)) ?_
    refine ⟨_, rfl, _, rfl, p, (bs K A).cl kd.cn, dx, _, rfl, upd_same, hT.cl kd, hT.nstep kd, by have h1 := putF_le "name" (V.str nm) fs; have h2 := putF_le "radius" (V.int rd) (putF "name" (V.str nm) fs); omega, ?_⟩
    exact k H' e
theorem ok_LateGauge_init (tx : Txt K mg A) : ∃ fd, FnOk P w K mg base CX0 4 A.f_LateGauge_init fd ["self", "name", "radius", "late", "pace"] (spTI (bs K A)) ∧ KBn K fd ["self", "name", "radius", "late", "pace"] 3 ["late", "pace"] (fun us ws => us ++ ws) (fun vs zs => vs ++ zs) := by
  have G_Gauge_init := ok_Gauge_init (P := P) (w := w) (base := base) tx
  obtain ⟨fd, F, kb⟩ := tx.dk_LateGauge_init.ex
  refine ⟨fd, F.ok sc_LateGauge_init (fun vs H Q E h => ?_) (fun cdv Ar outer s H vs Q E hr h => ?_), kb⟩
  · obtain ⟨W, p, dx, fs, kd, nm, rd, lt, pc, rfl, _⟩ := h; rfl
  · refine ⟨_, (pss_cons (ps_expr (pe_cinit (E := fun _ => E0) tx.cli_Gauge G_Gauge_init (room hr) passS0 tx.c_Gauge (pa_cons (pv 0) (pa_cons (pv 1) (pa_cons (pv 2) pa_nil)))))
        (pss_cons (ps_if (PW.pt (pw_or (pt_cmpR op_lt (pv 3) pe_int (nomark _)) (pw_or1 (pt_cmpR op_lt (pv 4) pe_int (nomark _))))) (pss_one ps_never) pss_nil)
        (pss_cons (ps_fld (pv 0) (pv 3) rfl)
        (pss_one (ps_fld (pv 0) (pv 4) rfl))))), ?_⟩
    try dsimp only [cxOf, Cx.nox]
    obtain ⟨W, p, dx, fs, kd, nm, rd, lt, pc, rfl, hp, hB, ho, hm, hl, hg, hn, hr0, hs0, hs1, hT, k⟩ := h
    refine ⟨_, rfl, _, rfl, _, rfl, W, p, dx, fs, kd, nm, rd, rfl, hp, hB, ho, hm, by omega, hg, hn, hr0, hT, fun H' e => ?_⟩
    refine ⟨_, rfl, lt, 0, rfl, rfl, _, rfl, ?_⟩
    refine itF (decide_eq_false (by omega)) ?_
    refine ⟨_, rfl, pc, 0, rfl, rfl, _, rfl, ?_⟩
    refine itF (decide_eq_false (by omega)) ?_
    have h1 := putF_le "name" (V.str nm) fs
    have h2 := putF_le "radius" (V.int rd) (putF "name" (V.str nm) fs)
    have h3 := putF_le "late" (V.int lt) (putF "radius" (V.int rd) (putF "name" (V.str nm) fs))
    refine ⟨_, rfl, _, rfl, p, (bs K A).cl kd.cn, dx, _, rfl, upd_same, hT.cl kd, hT.nlate kd, by omega, ?_⟩
    refine ⟨_, rfl, _, rfl, p, (bs K A).cl kd.cn, dx, _, rfl, upd_same, hT.cl kd, hT.npace kd, by omega, ?_⟩
    exact k H' e
theorem ok_LateCoarseGauge_init (tx : Txt K mg A) : ∃ fd, FnOk P w K mg base CX0 6 A.f_LateCoarseGauge_init fd ["self", "name", "radius", "step", "late", "pace"] (spQI (bs K A)) ∧ KBn K fd ["self", "name", "radius", "step", "late", "pace"] 3 ["step", "late", "pace"] (fun us ws => us ++ ws) (fun vs zs => vs ++ zs) ∧ KBn K fd ["self", "name", "radius", "step", "late", "pace"] 3 ["pace", "step", "late"] (fun us ws => us ++ rot3 ws) (fun vs zs => vs ++ rot3 zs) := by
  obtain ⟨fd_LateGauge_init, G_LateGauge_init, kb_LateGauge_init⟩ := ok_LateGauge_init (P := P) (w := w) (base := base) tx
  obtain ⟨fd_CoarseGauge_init, G_CoarseGauge_init, kb_CoarseGauge_init⟩ := ok_CoarseGauge_init (P := P) (w := w) (base := base) tx
  obtain ⟨fd, F, kb, kbr⟩ := tx.dk_LateCoarseGauge_init.ex
  refine ⟨fd, F.ok sc_LateCoarseGauge_init (fun vs H Q E h => ?_) (fun cdv Ar outer s H vs Q E hr h => ?_), kb, kbr⟩
  · obtain ⟨W, p, dx, nm, rd, st, lt, pc, rfl, _⟩ := h; rfl
  · refine ⟨_, (pss_cons (ps_expr (pe_cinitK tx.cli_LateGauge G_LateGauge_init (room hr) kb_LateGauge_init pass0 tx.c_LateGauge (pa_cons (pv 0) (pa_cons (pv 1) (pa_cons (pv 2) pa_nil))) (pk_cons (pv 4) (pk_cons (pv 5) pk_nil))))
        (pss_one (ps_expr (pe_cinitK tx.cli_CoarseGauge G_CoarseGauge_init (room hr) kb_CoarseGauge_init pass0 tx.c_CoarseGauge (pa_cons (pv 0) (pa_cons (pv 1) (pa_cons (pv 2) pa_nil))) (pk_cons (pv 3) pk_nil))))), ?_⟩
    try dsimp only [cxOf, Cx.nox]
    obtain ⟨W, p, dx, nm, rd, st, lt, pc, rfl, hp, hB, ho, hm, hg, hn, hr0, hs, hl0, hp0, hT, k⟩ := h
    refine ⟨_, rfl, _, rfl, _, rfl, _, rfl, _, rfl, rfl, rfl, W, p, dx, [], .lc, nm, rd, lt, pc, rfl, hp, hB, ho, hm, by decide, hg, hn, hr0, hl0, hp0, hT, fun H' e => ?_⟩
    refine ⟨_, rfl, _, rfl, _, rfl, _, rfl, rfl, rfl, W, p, dx, _, .lc, nm, rd, st, rfl, upd_same, hB, W.st _ _ _ (W.st _ _ _ (W.st _ _ _ (W.st _ _ _ e.ok hm) hm) hm) hm, hm, ?_, hg, hn, hr0, hs, hT, fun H2 e2 => ?_⟩
    · have h1 := putF_le "name" (V.str nm) []
      have h2 := putF_le "radius" (V.int rd) (putF "name" (V.str nm) [])
      have h3 := putF_le "late" (V.int lt) (putF "radius" (V.int rd) (putF "name" (V.str nm) []))
      have h4 := putF_le "pace" (V.int pc) (putF "late" (V.int lt) (putF "radius" (V.int rd) (putF "name" (V.str nm) [])))
      have h0 : ([] : List (Str × V)).length = 0 := rfl
      omega
    refine k _ (fun a o mb hne h => ?_) (W.st _ _ _ (W.st _ _ _ (W.st _ _ _ e2.ok hm) hm) hm) (by rw [upd_same, gauF_lc]; rfl)
    rw [upd_ne hne, upd_ne hne, upd_ne hne]
    refine e2.keep a o mb ?_
    rw [upd_ne hne, upd_ne hne, upd_ne hne, upd_ne hne]
    exact e.keep a o mb h
def P_specs : PT := fun rt xx ts => ∃ (ws : List Str), ts = [T Bx.mk, T ws] ∧ (ws.length ≤ 100 ∧ (∀ w ∈ ws, GoodW w) ∧ ∀ ss : List Spc, ss.map (·.nm) = ws → (∀ s ∈ ss, SpcOk s) → rt (T ss))
theorem pc_specs {rt : Ty → Prop} {xx : Xn → Prop} {ws : List Str} (h : ws.length ≤ 100 ∧ (∀ w ∈ ws, GoodW w) ∧ ∀ ss : List Spc, ss.map (·.nm) = ws → (∀ s ∈ ss, SpcOk s) → rt (T ss)) : P_specs rt xx [T Bx.mk, T ws] := ⟨_, rfl, h⟩
theorem ok_specs (tx : Txt K mg A) : FnR P w K mg base CX0 2 A.f_specs (spG (bs K A) P_specs) := by
  have G_take := ok_take (P := P) (w := w) (base := base) tx
  refine fnR_of tx.g_specs.d sc_specs (len_ok (n := 2) fun rt xx ts hp => by obtain ⟨_, rfl, _⟩ := hp; rfl) (fun cdv Ar outer s H vs Q E hr h => ⟨_, (pss_cons (ps_set (i := 2) sc_specs.nd rfl (Or.inl rfl) (pe_ix (ix_listK K) (pe_lst (pa_cons pe_int (pa_cons pe_int (pa_cons pe_int (pa_cons (pe_op op_pow pe_int pe_int) pa_nil))))) (pe_callR G_take (room hr) rfl (tx.g_take).g (tx.g_take).kp pass0 (pa_cons (pv 0) (pa_cons pe_int pa_nil))) (fun _ _ => rfl)))
        (pss_cons (ps_set (i := 3) sc_specs.nd rfl (Or.inl rfl) (pe_ix (ix_listK K) (pe_lst (pa_cons pe_int (pa_cons pe_int (pa_cons pe_int pa_nil)))) (pe_callR G_take (room hr) rfl (tx.g_take).g (tx.g_take).kp pass0 (pa_cons (pv 0) (pa_cons pe_int pa_nil))) (fun _ _ => rfl)))
        (pss_cons (ps_set (i := 4) sc_specs.nd rfl (Or.inl rfl) (pe_lst pa_nil))
        (pss_cons (ps_for PassesOwn.never rfl (pi_listK K (pv 1)) (pg_name (i := 5) sc_specs.nd rfl (Or.inl rfl)) (pss_cons (ps_set (i := 6) sc_specs.nd rfl (Or.inl rfl) (pe_ix (ix_listK K) (pe_lst (pa_cons pe_int (pa_cons pe_int (pa_cons pe_int (pa_cons pe_int (pa_cons pe_int pa_nil)))))) (pe_callR G_take (room hr) rfl (tx.g_take).g (tx.g_take).kp pass0 (pa_cons (pv 0) (pa_cons pe_int pa_nil))) (fun _ _ => rfl)))
        (pss_cons (ps_set (i := 7) sc_specs.nd rfl (Or.inl rfl) (pe_op op_add pe_int (pe_op op_mul (pv 2) (pe_callR G_take (room hr) rfl (tx.g_take).g (tx.g_take).kp pass0 (pa_cons (pv 0) (pa_cons (pv 3) pa_nil))))))
        (pss_cons (ps_set (i := 8) sc_specs.nd rfl (Or.inl rfl) (pe_op op_mul (pv 2) (pe_callR G_take (room hr) rfl (tx.g_take).g (tx.g_take).kp pass0 (pa_cons (pv 0) (pa_cons (pv 3) pa_nil)))))
        (pss_one (ps_expr (pe_appendK K (pv 4) (pa_cons (pe_tup (pa_cons (pv 5) (pa_cons (pv 6) (pa_cons (pe_op op_mul (pv 2) (pe_callR G_take (room hr) rfl (tx.g_take).g (tx.g_take).kp pass0 (pa_cons (pv 0) (pa_cons (pv 3) pa_nil)))) (pa_cons (pv 7) (pa_cons (pe_callR G_take (room hr) rfl (tx.g_take).g (tx.g_take).kp pass0 (pa_cons (pv 0) (pa_cons pe_int pa_nil))) (pa_cons (pv 8) pa_nil))))))) pa_nil))))))))
        (pss_one (ps_ret (pv 4))))))),
      body_ok (N := ["_law_box_here", "_law_words_here", "_law_unit", "_law_wide", "_law_specs_here", "_law_word_here", "_law_sort", "_law_grain", "_law_drift"]) (fun W ts rt xx hB ho hw hp => ?_) h⟩)
  have hK : W.B.K = K := congrArg Bs.K hB
  obtain ⟨ws, rfl, hp⟩ := hp
  show Sx W _ [some (T Bx.mk), some (T ws), none, none, none, none, none, none, none] _
  obtain ⟨hl, hg, hp⟩ := hp
  walk_at "g"
  refine pc_take ⟨by decide, by decide, fun k h0 h1 => ⟨_, rfl, ?_⟩⟩
  have hw : ∃ w : Int, atI [1, 1, 1, 1000000] k = some w ∧ 1 ≤ w ∧ w ≤ 1000000 := by
    have : k = 0 ∨ k = 1 ∨ k = 2 ∨ k = 3 := by omega
    rcases this with rfl | rfl | rfl | rfl
    · exact ⟨1, rfl, by omega, by omega⟩
    · exact ⟨1, rfl, by omega, by omega⟩
    · exact ⟨1, rfl, by omega, by omega⟩
    · exact ⟨1000000, rfl, by omega, by omega⟩
  obtain ⟨u, hw, u0, u1⟩ := hw
  refine ⟨u, hw, ?_⟩
  walk_at "g"
  refine pc_take ⟨by decide, by decide, fun k2 h2 h3 => ⟨_, rfl, ?_⟩⟩
  have hw2 : ∃ w : Int, atI [1, 4, 30] k2 = some w ∧ 1 ≤ w ∧ w ≤ 30 := by
    have : k2 = 0 ∨ k2 = 1 ∨ k2 = 2 := by omega
    rcases this with rfl | rfl | rfl
    · exact ⟨1, rfl, by omega, by omega⟩
    · exact ⟨4, rfl, by omega, by omega⟩
    · exact ⟨30, rfl, by omega, by omega⟩
  obtain ⟨wd, hw2, w0, w1⟩ := hw2
  refine ⟨wd, hw2, ?_⟩
  show Sx W _ [some (T Bx.mk), some (T ws), some (T u), some (T wd), none, none, none, none, none] _
  refine sx_own fun F => ?_
  refine sxm_seq (sxm_new (β := Spc) (rβ := inferInstance) fun Wo hW => evF_lst (el_nil (α := Spc) (rα := inferInstance) ⟨by decide, fun p vs => ?_⟩))
  show SxM W F _ [(p, vs)] [some (T Bx.mk), some (T ws), some (T u), some (T wd), some (T (Ol.mk p vs ([] : List Spc))), none, none, none, none] _
  refine sxm_seq (sxm_forL (α := Str) (rα := inferInstance) hK fun Wo hW => ?_)
  walk_at "g"
  refine ⟨fun i L' Γ' => ∃ (vs' : List V) (as : List Spc) (o5 o6 o7 o8 : Option Ty), L' = [(p, vs')] ∧ as.map (·.nm) = ws.take i ∧ (∀ s ∈ as, SpcOk s) ∧ Γ' = [some (T Bx.mk), some (T ws), some (T u), some (T wd), some (T (Ol.mk p vs' as)), o5, o6, o7, o8], ⟨vs, [], none, none, none, none, rfl, rfl, fun _ h => (nomatch h), rfl⟩, fun i L' Γ' ⟨_, _, _, _, _, _, h, _⟩ => by rw [h]; rfl, ?_, ?_⟩
  · rintro i a L' Γ' ha ⟨vs', as, o5, o6, o7, o8, rfl, am, ao, rfl⟩ Wo' hW'
    have hgw := hg a (List.mem_of_getElem? ha)
    have hal : as.length ≤ 100 := by
      have := congrArg List.length am
      rw [List.length_map, List.length_take] at this
      omega
    apply tg_of
    walk_at "g"
    show SxM W F _ [(p, vs')] [some (T Bx.mk), some (T ws), some (T u), some (T wd), some (T (Ol.mk p vs' as)), some (T a), o6, o7, o8] _
    refine sxm_seq (sxm_pure fun Wo1 hW1 => ?_)
    have hB1 : Wo1.B = bs K A := hW1.B.trans hB
    have hK1 : Wo1.B.K = K := congrArg Bs.K hB1
    apply sx_set
    refine ev_ixL (α := Int) (rα := inferInstance) hK1 ?_
    apply ev_lst
    walk_at "g"
    refine pc_take ⟨by decide, by decide, fun z z0 z1 => ⟨_, rfl, ?_⟩⟩
    have hso : ∃ w : Int, atI [0, 0, 1, 2, 3] z = some w ∧ (w = 0 ∨ w = 1 ∨ w = 2 ∨ w = 3) := by
      have : z = 0 ∨ z = 1 ∨ z = 2 ∨ z = 3 ∨ z = 4 := by omega
      rcases this with rfl | rfl | rfl | rfl | rfl
      · exact ⟨0, rfl, by omega⟩
      · exact ⟨0, rfl, by omega⟩
      · exact ⟨1, rfl, by omega⟩
      · exact ⟨2, rfl, by omega⟩
      · exact ⟨3, rfl, by omega⟩
    obtain ⟨so, hso, hso'⟩ := hso
    refine ⟨so, hso, ?_⟩
    show SxM W F _ [(p, vs')] [some (T Bx.mk), some (T ws), some (T u), some (T wd), some (T (Ol.mk p vs' as)), some (T a), some (T so), o7, o8] _
    refine sxm_seq (sxm_pure fun Wo2 hW2 => ?_)
    have hB2 : Wo2.B = bs K A := hW2.B.trans hB
    have hK2 : Wo2.B.K = K := congrArg Bs.K hB2
    walk_at "g"
    refine pc_take ⟨by omega, by omega, fun g1 g2 g3 => ⟨_, rfl, ?_⟩⟩
    walk_at "g"
    show SxM W F _ [(p, vs')] [some (T Bx.mk), some (T ws), some (T u), some (T wd), some (T (Ol.mk p vs' as)), some (T a), some (T so), some (T (1 + u * g1)), o8] _
    refine sxm_seq (sxm_pure fun Wo3 hW3 => ?_)
    have hB3 : Wo3.B = bs K A := hW3.B.trans hB
    have hK3 : Wo3.B.K = K := congrArg Bs.K hB3
    walk_at "g"
    refine pc_take ⟨by omega, by omega, fun d1 d2 d3 => ⟨_, rfl, ?_⟩⟩
    walk_at "g"
    show SxM W F _ [(p, vs')] [some (T Bx.mk), some (T ws), some (T u), some (T wd), some (T (Ol.mk p vs' as)), some (T a), some (T so), some (T (1 + u * g1)), some (T (u * d1))] _
    refine sxm_append (α := Spc) (rα := inferInstance) 0 rfl rfl fun Wo8 hW8 => ?_
    have hB8 : Wo8.B = bs K A := hW8.B.trans hB
    have hK8 : Wo8.B.K = K := congrArg Bs.K hB8
    apply ev_tupSp
    walk_at "g"
    refine pc_take ⟨by omega, by omega, fun r1 r2 r3 => ⟨_, rfl, ?_⟩⟩
    walk_at "g"
    refine pc_take ⟨by decide, by decide, fun l1 l2 l3 => ⟨_, rfl, ?_⟩⟩
    walk_at "g"
    have b1 := mul_le2 (A := 1000000) (B := 30) (show 0 ≤ u by omega) g2 u1 (by omega)
    have b2 := mul_le2 (A := 1000000) (B := 30) (show 0 ≤ u by omega) d2 u1 (by omega)
    have b3 := mul_le2 (A := 1000000) (B := 30) (show 0 ≤ u by omega) r2 u1 (by omega)
    have c1 := mul_ge0 (show 0 ≤ u by omega) g2
    have c2 := mul_ge0 (show 0 ≤ u by omega) d2
    have c3 := mul_ge0 (show 0 ≤ u by omega) r2
    refine fun v => ⟨_, _, _, _, _, _, rfl, ?_, ?_, rfl⟩
    · rw [List.map_append, am, List.take_succ, ha]
      rfl
    · intro s hs
      rcases List.mem_append.mp hs with hs | hs
      · exact ao s hs
      · rw [List.mem_singleton.mp hs]
        exact ⟨hgw, hso', ⟨c3, by show u * r1 ≤ _; omega⟩, ⟨by show 1 ≤ 1 + u * g1; omega, by show 1 + u * g1 ≤ _; omega⟩, ⟨l2, by show l1 ≤ 1000; omega⟩, ⟨c2, by show u * d1 ≤ _; omega⟩⟩
  · rintro L' Γ' ⟨vs', as, o5, o6, o7, o8, rfl, am, ao, rfl⟩
    rw [List.take_length] at am
    refine sxm_freeze (Γ' := [some (T Bx.mk), some (T ws), some (T u), some (T wd), some (T as), o5, o6, o7, o8]) (by walk_at "frz") ?_
    refine sxm_pure fun Wf hWf => ?_
    walk_at "g"
    exact hp as am ao
def P_gauge : PT := fun rt xx ts => ∃ (s : Spc), ts = [T s] ∧ (SpcOk s ∧ rt (T (gauS s)))
theorem pc_gauge {rt : Ty → Prop} {xx : Xn → Prop} {s : Spc} (h : SpcOk s ∧ rt (T (gauS s))) : P_gauge rt xx [T s] := ⟨_, rfl, h⟩
theorem ok_gauge (tx : Txt K mg A) : FnR P w K mg base CX0 8 A.f_gauge (spG (bs K A) P_gauge) := by
  obtain ⟨fd_CoarseGauge_init, G_CoarseGauge_init, kb_CoarseGauge_init⟩ := ok_CoarseGauge_init (P := P) (w := w) (base := base) tx
  obtain ⟨fd_LateGauge_init, G_LateGauge_init, kb_LateGauge_init⟩ := ok_LateGauge_init (P := P) (w := w) (base := base) tx
  obtain ⟨fd_LateCoarseGauge_init, G_LateCoarseGauge_init, kb_LateCoarseGauge_init, kbr_LateCoarseGauge_init⟩ := ok_LateCoarseGauge_init (P := P) (w := w) (base := base) tx
  have G_Gauge_init := ok_Gauge_init (P := P) (w := w) (base := base) tx
  refine fnR_of tx.g_gauge.d sc_gauge (len_ok (n := 1) fun rt xx ts hp => by obtain ⟨_, rfl, _⟩ := hp; rfl) (fun cdv Ar outer s H vs Q E hr h => ⟨_, (pss_cons (ps_if (pt_cmpR (op_eqDK K (huD hr)) (pe_ix (ix_tupK K) (pv 0) pe_int (fun _ _ => rfl)) pe_int (nomark _)) (pss_one (ps_ret (pe_makeK (tx.m_CoarseGauge) G_CoarseGauge_init (room hr) rfl tx.c_CoarseGauge kb_CoarseGauge_init pass0 (pa_cons (pe_ix (ix_tupK K) (pv 0) pe_int (fun _ _ => rfl)) (pa_cons (pe_ix (ix_tupK K) (pv 0) pe_int (fun _ _ => rfl)) pa_nil)) (pk_cons (pe_ix (ix_tupK K) (pv 0) pe_int (fun _ _ => rfl)) pk_nil)))) pss_nil)
        (pss_cons (ps_if (pt_cmpR (op_eqDK K (huD hr)) (pe_ix (ix_tupK K) (pv 0) pe_int (fun _ _ => rfl)) pe_int (nomark _)) (pss_one (ps_ret (pe_makeK (tx.m_LateGauge) G_LateGauge_init (room hr) rfl tx.c_LateGauge kb_LateGauge_init pass0 (pa_cons (pe_ix (ix_tupK K) (pv 0) pe_int (fun _ _ => rfl)) (pa_cons (pe_ix (ix_tupK K) (pv 0) pe_int (fun _ _ => rfl)) pa_nil)) (pk_cons (pe_ix (ix_tupK K) (pv 0) pe_int (fun _ _ => rfl)) (pk_cons (pe_ix (ix_tupK K) (pv 0) pe_int (fun _ _ => rfl)) pk_nil))))) pss_nil)
        (pss_cons (ps_if (pt_cmpR (op_eqDK K (huD hr)) (pe_ix (ix_tupK K) (pv 0) pe_int (fun _ _ => rfl)) pe_int (nomark _)) (pss_one (ps_ret (pe_makeK (tx.m_LateCoarseGauge) G_LateCoarseGauge_init (room hr) rfl tx.c_LateCoarseGauge kbr_LateCoarseGauge_init pass0 (pa_cons (pe_ix (ix_tupK K) (pv 0) pe_int (fun _ _ => rfl)) (pa_cons (pe_ix (ix_tupK K) (pv 0) pe_int (fun _ _ => rfl)) pa_nil)) (pk_cons (pe_ix (ix_tupK K) (pv 0) pe_int (fun _ _ => rfl)) (pk_cons (pe_ix (ix_tupK K) (pv 0) pe_int (fun _ _ => rfl)) (pk_cons (pe_ix (ix_tupK K) (pv 0) pe_int (fun _ _ => rfl)) pk_nil)))))) pss_nil)
        (pss_one (ps_ret (pe_makeR (tx.m_Gauge) G_Gauge_init (room hr) rfl tx.c_Gauge pass0 (pa_cons (pe_ix (ix_tupK K) (pv 0) pe_int (fun _ _ => rfl)) (pa_cons (pe_ix (ix_tupK K) (pv 0) pe_int (fun _ _ => rfl)) pa_nil)))))))),
      body_ok (N := ["_law_spec"]) (fun W ts rt xx hB ho hw hp => ?_) h⟩)
  have hK : W.B.K = K := congrArg Bs.K hB
  obtain ⟨s, rfl, hp⟩ := hp
  show Sx W _ [some (T s)] _
  obtain ⟨ok, hp⟩ := hp
  have hgn := gnB_good ok.nm
  have hl : s.nm.length ≤ 100000 := by have := ok.nm.2.1; omega
  have hG := gauT tx
  have kd : gauS s = ⟨kdS s.so, s.nm, s.rd, s.gr, s.la, s.dr⟩ := rfl
  unfold kdS at kd
  walk_at "g"
  refine ⟨fun h => ?_, fun h => ?_⟩
  · rw [kd, if_pos (of_decide_eq_true h)] at hp
    apply sx_ret
    refine ev_coarseG s.la s.dr hB rfl hG ?_
    walk_at "g"
    exact ⟨⟨hgn, hl, ok.rd.1, ok.gr.1⟩, hp⟩
  · rw [if_neg (of_decide_eq_false h)] at kd
    walk_at "g"
    refine ⟨fun h => ?_, fun h => ?_⟩
    · rw [kd, if_pos (of_decide_eq_true h)] at hp
      apply sx_ret
      refine ev_lateG s.gr hB rfl hG ?_
      walk_at "g"
      exact ⟨⟨hgn, hl, ok.rd.1, ok.la.1, ok.dr.1⟩, hp⟩
    · rw [if_neg (of_decide_eq_false h)] at kd
      walk_at "g"
      refine ⟨fun h => ?_, fun h => ?_⟩
      · rw [kd, if_pos (of_decide_eq_true h)] at hp
        apply sx_ret
        refine ev_lcG hB rfl hG ?_
        walk_at "g"
        refine ⟨_, _, rfl, ?_⟩
        walk_at "g"
        exact ⟨_, _, _, _, _, _, rfl, fun x y q => rfl, ⟨hgn, hl, ok.rd.1, ok.gr.1, ok.la.1, ok.dr.1⟩, hp⟩
      · rw [kd, if_neg (of_decide_eq_false h)] at hp
        refine sx_next ?_
        apply sx_ret
        refine ev_gauge s.gr s.la s.dr hB rfl hG ?_
        walk_at "g"
        exact ⟨⟨hgn, hl, ok.rd.1⟩, hp⟩
def P_gauges : PT := fun rt xx ts => ∃ (ss : List Spc), ts = [T ss] ∧ (ss.length ≤ 1000 ∧ (∀ s ∈ ss, SpcOk s) ∧ rt (T (ss.map gauS)))
theorem pc_gauges {rt : Ty → Prop} {xx : Xn → Prop} {ss : List Spc} (h : ss.length ≤ 1000 ∧ (∀ s ∈ ss, SpcOk s) ∧ rt (T (ss.map gauS))) : P_gauges rt xx [T ss] := ⟨_, rfl, h⟩
theorem ok_gauges (tx : Txt K mg A) : FnR P w K mg base CX0 9 A.f_gauges (spG (bs K A) P_gauges) := by
  have G_gauge := ok_gauge (P := P) (w := w) (base := base) tx
  refine fnR_of tx.g_gauges.d sc_gauges (len_ok (n := 1) fun rt xx ts hp => by obtain ⟨_, rfl, _⟩ := hp; rfl) (fun cdv Ar outer s H vs Q E hr h => ⟨_, (pss_one (ps_ret (pe_lc (own := [("_law_spec", 1)]) rfl sc_gauges.nd (pi_listK K (pv 0)) (blkOk_by (N := ["_law_specs_here", "_law_spec"]) (sc := defScope s_gauges) (by decide +kernel)) (fun _ _ _ _ _ => (pg_name (i := 1) sc_gauges.nd rfl (Or.inl rfl))) (fun _ _ _ _ _ => pts_nil) (fun _ _ _ _ _ => (pe_callR G_gauge (room hr) rfl (tx.g_gauge).g (tx.g_gauge).kp pass0 (pa_cons (pv 1) pa_nil)))))),
      body_ok (N := ["_law_specs_here", "_law_spec"]) (fun W ts rt xx hB ho hw hp => ?_) h⟩)
  have hK : W.B.K = K := congrArg Bs.K hB
  obtain ⟨ss, rfl, hp⟩ := hp
  show Sx W _ [some (T ss), none] _
  obtain ⟨hl, ho, hp⟩ := hp
  walk_at "g"
  refine ev_lcF (fun _ => true) gauS hK ?_
  walk_at "g"
  refine ⟨fun W' sb p hpm => ⟨[1], rfl, ?_⟩, ?_⟩
  · have hB' : W'.B = bs K A := sb.B.trans hB
    have hK' : W'.B.K = K := congrArg Bs.K hB'
    walk_at "g"
    refine ⟨fun _ => ?_, fun h => nomatch h⟩
    walk_at "g"
    exact pc_gauge ⟨ho p hpm, _, rfl, rfl, rfl⟩
  · rw [List.filter_eq_self.mpr fun _ _ => rfl]
    exact hp
def P_slacks : PT := fun rt xx ts => ∃ (s : Spc), ts = [T s] ∧ (0 ≤ s.la ∧ s.la ≤ 1000000 ∧ rt (T (s.rd + s.la * s.dr * (if decide (2 ≤ s.so) = true then 1 else 0), s.rd + s.la * s.dr * (if decide (2 ≤ s.so) = true then 1 else 0) + (s.gr - 1) * (if (decide (s.so = 1) || decide (s.so = 3)) = true then 1 else 0))))
theorem pc_slacks {rt : Ty → Prop} {xx : Xn → Prop} {s : Spc} (h : 0 ≤ s.la ∧ s.la ≤ 1000000 ∧ rt (T (s.rd + s.la * s.dr * (if decide (2 ≤ s.so) = true then 1 else 0), s.rd + s.la * s.dr * (if decide (2 ≤ s.so) = true then 1 else 0) + (s.gr - 1) * (if (decide (s.so = 1) || decide (s.so = 3)) = true then 1 else 0)))) : P_slacks rt xx [T s] := ⟨_, rfl, h⟩
theorem ok_slacks (tx : Txt K mg A) : FnR P w K mg base CX0 1 A.f_slacks (spG (bs K A) P_slacks) := by
  refine fnR_of tx.g_slacks.d sc_slacks (len_ok (n := 1) fun rt xx ts hp => by obtain ⟨_, rfl, _⟩ := hp; rfl) (fun cdv Ar outer s H vs Q E hr h => ⟨_, (pss_cons (ps_set (i := 1) sc_slacks.nd rfl (Or.inl rfl) (pe_op op_mul (pe_op op_mul (pe_ix (ix_tupK K) (pv 0) pe_int (fun _ _ => rfl)) (pe_ix (ix_tupK K) (pv 0) pe_int (fun _ _ => rfl))) (pe_callTy call_int1 (by rfl) tx.z_int (by decide +kernel) (pa_cons (pe_cmpR op_ge (pe_ix (ix_tupK K) (pv 0) pe_int (fun _ _ => rfl)) pe_int (nomark _)) pa_nil))))
        (pss_one (ps_ret (pe_tup (pa_cons (pe_op op_add (pe_ix (ix_tupK K) (pv 0) pe_int (fun _ _ => rfl)) (pv 1)) (pa_cons (pe_op op_add (pe_op op_add (pe_ix (ix_tupK K) (pv 0) pe_int (fun _ _ => rfl)) (pv 1)) (pe_op op_mul (pe_op op_sub (pe_ix (ix_tupK K) (pv 0) pe_int (fun _ _ => rfl)) pe_int) (pe_callTy call_int1 (by rfl) tx.z_int (by decide +kernel) (pa_cons (pe_or (pe_cmpR (op_eqDK K (huD hr)) (pe_ix (ix_tupK K) (pv 0) pe_int (fun _ _ => rfl)) pe_int (nomark _)) (pe_one (pe_cmpR (op_eqDK K (huD hr)) (pe_ix (ix_tupK K) (pv 0) pe_int (fun _ _ => rfl)) pe_int (nomark _)))) pa_nil)))) pa_nil)))))),
      body_ok (N := ["_law_spec", "_law_old"]) (fun W ts rt xx hB ho hw hp => ?_) h⟩)
  have hK : W.B.K = K := congrArg Bs.K hB
  obtain ⟨s, rfl, hp⟩ := hp
  show Sx W _ [some (T s), none] _
  obtain ⟨h1, h2, hp⟩ := hp
  walk_at "g"
  refine ⟨fun h => ?_, fun h => ?_⟩
  · rw [h, Bool.true_or] at hp
    exact ⟨.inr ⟨by decide, by decide⟩, hp⟩
  · walk_at "g"
    rw [h, Bool.false_or] at hp
    exact hp
theorem ok_DuplicateGauge_init (tx : Txt K mg A) : FnR P w K mg base CX0 1 A.f_DuplicateGauge_init (spEr A.c_DuplicateGauge (shStr "name")) := by
  refine fnR_of tx.d_DuplicateGauge_init sc_DuplicateGauge_init (fun vs H Q E h => ?_) (fun cdv Ar outer s H vs Q E hr h => ?_)
  · obtain ⟨a, as, fs, rfl, ⟨i, rfl, _⟩, _⟩ := h; rfl
  · refine ⟨_, (pss_cons (ps_expr (pe_geinitK K tx.ge (pa_cons (pv 0) (pa_cons (pe_joined (PJ.cons pe_str (PJ.cons (pe_fmtR (pv 1)) (PJ.cons pe_str PJ.nil)))) pa_nil))))
        (pss_one (ps_ostK K (pv 0) (pv 1)))), ?_⟩
    try dsimp only [cxOf, Cx.nox]
    obtain ⟨a, as, fs, rfl, ⟨i, rfl, s1, s2, rfl⟩, ha, k⟩ := h
    exact err_one tx.xo_DuplicateGauge tx.n_DuplicateGauge_name rfl rfl (first_ge tx.xo_DuplicateGauge rfl ha fun Q q => js_ok q (.cons c_is (by decide) (.cons (fmt_rep (var_is rfl) s1) s1 (.cons c_is (by decide) .nil))) (by decide)) ha k
theorem ok_UnknownGauge_init (tx : Txt K mg A) : FnR P w K mg base CX0 1 A.f_UnknownGauge_init (spEr A.c_UnknownGauge (shStr "name")) := by
  refine fnR_of tx.d_UnknownGauge_init sc_UnknownGauge_init (fun vs H Q E h => ?_) (fun cdv Ar outer s H vs Q E hr h => ?_)
  · obtain ⟨a, as, fs, rfl, ⟨i, rfl, _⟩, _⟩ := h; rfl
  · refine ⟨_, (pss_cons (ps_expr (pe_geinitK K tx.ge (pa_cons (pv 0) (pa_cons (pe_joined (PJ.cons pe_str (PJ.cons (pe_fmtR (pv 1)) PJ.nil))) pa_nil))))
        (pss_one (ps_ostK K (pv 0) (pv 1)))), ?_⟩
    try dsimp only [cxOf, Cx.nox]
    obtain ⟨a, as, fs, rfl, ⟨i, rfl, s1, s2, rfl⟩, ha, k⟩ := h
    exact err_one tx.xo_UnknownGauge tx.n_UnknownGauge_name rfl rfl (first_ge tx.xo_UnknownGauge rfl ha fun Q q => js_ok q (.cons c_is (by decide) (.cons (fmt_rep (var_is rfl) s1) s1 .nil)) (by decide)) ha k
def P_Rack_names : PF Str := fun k ts => ∃ (gs : List Gau), (ts = [T (Rp.mk gs)] ∨ ∃ fl, ts = [T (Rk.mk gs fl)]) ∧ gs.length ≤ 100 ∧ k (gs.map Gau.nm)
theorem ok_Rack_names (tx : Txt K mg A) : FnR P w K mg base CX0 1 A.f_Rack_names (spFr (bs K A) P_Rack_names) := by
  refine fnR_of tx.d_Rack_names sc_Rack_names (fun vs H Q E h => ?_) (fun cdv Ar outer s H vs Q E hr h => ?_)
  · obtain ⟨W, ts, k, _, _, _, d, ⟨gs, hts, _⟩, _⟩ := h
    rcases hts with rfl | ⟨fl, rfl⟩ <;> exact d.length
  · refine ⟨_, (pss_one (ps_ret (pe_lc (own := [("each", 1)]) rfl sc_Rack_names.nd (pi_listK K (pe_fldK K (pv 0) rfl)) (blkOk_by (N := ["self", "each"]) (sc := defScope s_Rack_names) (by decide +kernel)) (fun _ _ _ _ _ => (pg_name (i := 1) sc_Rack_names.nd rfl (Or.inl rfl))) (fun _ _ _ _ _ => pts_nil) (fun _ _ _ _ _ => (pe_fldK K (pv 1) rfl))))), ?_⟩
    try dsimp only [cxOf, Cx.nox]
    obtain ⟨W, ts, k, hB, ho, hw, d, ⟨gs, hts, hl, kk⟩, hq⟩ := h
    have hK : W.B.K = K := congrArg Bs.K hB
    have lc : ∀ (o : Ty) (te : TE), EvK W te [some o, none] (fun as : List Gau => as = gs) → EvF W (tLc (iList K te) (gName 1) tYes (tFld K (tVar 1) "name") [1]) [some o, none] fun bs => bs = gs.map Gau.nm := fun o te h =>
      evF_lcF (fun _ => true) Gau.nm hK (h.imp fun as e => ⟨by rw [e]; omega, fun W' sb g hg => ⟨[1], rfl, tj_name (et_yes ⟨fun _ => ev_gname (congrArg Bs.K (sb.B.trans hB)) ((sb.B.trans hB) ▸ gauT tx) (ev_var rfl ⟨rfl, rfl⟩), fun h => (nomatch h)⟩)⟩, by rw [filtT, e]⟩)
    rcases hts with rfl | ⟨fl, rfl⟩
    · have G0 : GOk W H (L2.start ["self", "each"] vs) [some (T (Rp.mk gs)), none] := start_ok ho hw d
      exact lc _ _ (ev_pgauges hK (ev_var rfl rfl)) _ H _ G0 fun p H' ws bs n e hp hd q => hq p H' ws bs n e hp hd (q ▸ kk)
    · have G0 : GOk W H (L2.start ["self", "each"] vs) [some (T (Rk.mk gs fl)), none] := start_ok ho hw d
      exact lc _ _ (ev_kgauges hK (ev_var rfl rfl)) _ H _ G0 fun p H' ws bs n e hp hd q => hq p H' ws bs n e hp hd (q ▸ kk)
def P_Rack_contains : PT := fun rt xx ts => ∃ (o : G.Ty) (gs : List Gau) (x : Str), ts = [o, T x] ∧ (o = T (Rp.mk gs) ∨ ∃ fl, o = T (Rk.mk gs fl)) ∧ gs.length ≤ 100 ∧ rt (T (decide (x ∈ gs.map Gau.nm)))
theorem ok_Rack_contains (tx : Txt K mg A) : FnR P w K mg base CX0 2 A.f_Rack_contains (spG (bs K A) P_Rack_contains) := by
  have G_Rack_names := ok_Rack_names (P := P) (w := w) (base := base) tx
  refine fnR_of tx.d_Rack_contains sc_Rack_contains (len_ok (n := 2) fun rt xx ts hp => by obtain ⟨_, _, _, rfl, _⟩ := hp; rfl) (fun cdv Ar outer s H vs Q E hr h => ⟨_, (pss_one (ps_ret (pe_cmpR (op_inSeqK K) (pv 1) (pe_methZ0 (E := fun _ => E0) (pv 0) (tx.cl_Rack) (tx.m_Rack_names) G_Rack_names (room hr) passS0) rfl))),
      body_ok (N := ["self", "x"]) (fun W ts rt xx hB ho hw hp => ?_) h⟩)
  have hK : W.B.K = K := congrArg Bs.K hB
  obtain ⟨o, gs, x, rfl, hts, hl, hp⟩ := hp
  rcases hts with rfl | ⟨fl, rfl⟩
  · show Sx W _ [some (T (Rp.mk gs)), some (T x)] _
    exact sx_ret (ev_inS hK (ev_var rfl (evF_methFr (α := Rp) (rα := inferInstance) hB (ev_var rfl (ownM_in rfl (by decide +kernel) (ea_nil ⟨gs, .inl rfl, hl, hp⟩)))).k))
  · show Sx W _ [some (T (Rk.mk gs fl)), some (T x)] _
    exact sx_ret (ev_inS hK (ev_var rfl (evF_methFr (α := Rk) (rα := inferInstance) hB (ev_var rfl (ownM_in rfl (by decide +kernel) (ea_nil ⟨gs, .inr ⟨fl, rfl⟩, hl, hp⟩)))).k))
def P_Rack_refuse_unknown : PT := fun rt xx ts => ∃ (o : G.Ty) (gs : List Gau) (ws : List Str), ts = [o, T ws] ∧ (o = T (Rp.mk gs) ∨ ∃ fl, o = T (Rk.mk gs fl)) ∧ gs.length ≤ 100 ∧ ws.length ≤ 1000 ∧ (∀ w ∈ ws, (reprText w).length ≤ 3000 ∧ w.length ≤ 3000) ∧
  ((∀ w ∈ ws, w ∈ gs.map Gau.nm) → rt (T ())) ∧ (∀ (i : Nat) (w : Str), ws[i]? = some w → (∀ (j : Nat) (u : Str), j < i → ws[j]? = some u → u ∈ gs.map Gau.nm) → w ∉ gs.map Gau.nm → xx ⟨.UnknownGauge, [("name", .s w)]⟩)
theorem ok_Rack_refuse_unknown (tx : Txt K mg A) : FnR P w K mg base (L2.CX P w) 3 A.f_Rack_refuse_unknown (spG (bs K A) P_Rack_refuse_unknown) := by
  have G_Rack_contains := ok_Rack_contains (P := P) (w := w) (base := base) tx
  have G_UnknownGauge_init := ok_UnknownGauge_init (P := P) (w := w) (base := base) tx
  refine fnRX_of tx.d_Rack_refuse_unknown sc_Rack_refuse_unknown (len_ok (n := 2) fun rt xx ts hp => by obtain ⟨_, _, _, rfl, _⟩ := hp; rfl) (fun cdv Ar outer s H vs Q E hr h => ⟨_, (pss_one (ps_for PassesOwn.leaving rfl (pi_listK K (pv 1)) (pg_name (i := 2) sc_Rack_refuse_unknown.nd rfl (Or.inl rfl)) (pss_one (ps_if (pt_cmpR (op_notInOwn (tx.m_Rack_contains) G_Rack_contains (room hr) pass0) (pv 2) (pv 0) rfl) (pss_one (ps_raise rfl (takes_of rfl rfl rfl rfl) (pmk_oexR tx.xo_UnknownGauge tx.xi_UnknownGauge tx.xt_UnknownGauge G_UnknownGauge_init (room hr) pass0 rfl tx.c_UnknownGauge (pa_cons (pv 2) pa_nil)))) pss_nil)))),
      body_ok (N := ["self", "names", "name"]) (fun W ts rt xx hB ho hw hp => ?_) h⟩)
  have hK : W.B.K = K := congrArg Bs.K hB
  obtain ⟨o, gs, ws, rfl, hts, hl, hwl, hsz, hall, hbad⟩ := hp
  show Sx W _ [some o, some (T ws), none] _
  refine sx_forL (α := Str) (rα := inferInstance) hK (ev_var rfl ⟨fun i Γ' => (∀ j u, j < i → ws[j]? = some u → u ∈ gs.map Gau.nm) ∧ ∃ o2, Γ' = [some o, some (T ws), o2], ⟨fun j u hj => absurd hj (Nat.not_lt_zero _), none, rfl⟩, ?_, ?_⟩)
  · rintro i w Γ' hw2 ⟨hf, o2, rfl⟩
    refine ⟨[2], tj_name ?_⟩
    show Sx W _ [some o, some (T ws), some (T w)] _
    have fin : ∀ k : Bool → Prop, k (!decide (w ∈ gs.map Gau.nm)) → EvK W (tOp (rNotInOwn A.c_Rack (spG (bs K A) P_Rack_contains) E0) (tVar 2) (tVar 0)) [some o, some (T ws), some (T w)] k := fun k q => by
      rcases hts with rfl | ⟨fl, rfl⟩
      · exact ev_notInOwn (β := Rp) (rβ := inferInstance) hB (ev_var rfl (ev_var rfl (own_in rfl ⟨_, gs, w, rfl, .inl rfl, hl, ⟨_, rfl, q⟩⟩)))
      · exact ev_notInOwn (β := Rk) (rβ := inferInstance) hB (ev_var rfl (ev_var rfl (own_in rfl ⟨_, gs, w, rfl, .inr ⟨fl, rfl⟩, hl, ⟨_, rfl, q⟩⟩)))
    refine sx_if (et_test (fin _ ⟨fun h => ?_, fun h => ?_⟩))
    · have hn : w ∉ gs.map Gau.nm := by simpa using h
      obtain ⟨s1, s2⟩ := hsz w (List.mem_of_getElem? hw2)
      refine sx_raise (c := .UnknownGauge) (Wx := fun cls d _ H => E cls d H) hB rfl (hx_of hw) ?_
      exact ea_cons (ev_var rfl (ea_nil ⟨_, shStr_ok s1 s2, hbad i w hw2 hf hn⟩))
    · have hy : w ∈ gs.map Gau.nm := by simpa using h
      refine sx_next ⟨fun j u hj hu => ?_, _, rfl⟩
      rcases Nat.eq_or_lt_of_le (Nat.le_of_lt_succ hj) with rfl | hlt
      · rw [hw2] at hu
        cases hu
        exact hy
      · exact hf j u hlt hu
  · rintro Γ' ⟨hf, o2, rfl⟩
    refine hall fun w hw2 => ?_
    obtain ⟨j, hj, rfl⟩ := List.getElem_of_mem hw2
    exact hf j _ hj (List.getElem?_eq_getElem hj)
def P_m_faults_of : PT := fun rt xx ts => ∃ (o : G.Ty) (ns : List Str) (gs : List Grp), ts = [T ns, o] ∧ (o = T (Tl.mk gs) ∨ (gs = [] ∧ o = T Em.mk)) ∧ ns.length ≤ 100 ∧ (gs.flatMap Tl.xs).length ≤ 1000 ∧ (∀ n ∈ ns, PyData.strOk n = true) ∧ rt (T (flF ns gs))
theorem ok_m_faults_of (tx : Txt K mg A) : FnR P w K mg base CX0 1 A.f_m_faults_of (spG (bs K A) P_m_faults_of) := by
  refine fnR_of tx.g_m_faults_of.d sc_m_faults_of (len_ok (n := 2) fun rt xx ts hp => by obtain ⟨_, _, _, rfl, _⟩ := hp; rfl) (fun cdv Ar outer s H vs Q E hr h => ⟨_, (pss_cons (ps_set (i := 2) sc_m_faults_of.nd rfl (Or.inr rfl) (pe_dc2 (own := [("group", 3), ("member", 4)]) (vs1 := [4]) rfl sc_m_faults_of.nd (pi_tupK K (pv 1)) (blkOk_by (N := ["names", "together", "groups", "group", "member", "faults", "name", "fault", "other"]) (sc := defScope s_m_faults_of) (by decide +kernel)) (by decide) (fun _ _ _ _ _ => (pg_name (i := 3) sc_m_faults_of.nd rfl (Or.inl rfl))) (fun _ _ _ _ _ => (pi_tupK K (pv 3))) (fun _ _ _ _ _ => (pg_name (i := 4) sc_m_faults_of.nd rfl (Or.inl rfl))) (fun _ _ _ _ _ => (pv 4)) (fun _ _ _ _ _ => (pv 3))))
        (pss_cons (ps_set (i := 5) sc_m_faults_of.nd rfl (Or.inl rfl) (pe_lst pa_nil))
        (pss_cons (ps_for PassesOwn.never rfl (pi_listK K (pv 0)) (pg_name (i := 6) sc_m_faults_of.nd rfl (Or.inr rfl)) (pss_cons (ps_setLc (i := 7) (own := [("other", 8)]) rfl sc_m_faults_of.nd rfl rfl (sw_true rfl rfl rfl (by decide +kernel)) (pi_listK K (pv 0)) (blkOk_by (N := ["names", "together", "groups", "group", "member", "faults", "name", "fault", "other"]) (sc := defScope s_m_faults_of) (by decide +kernel)) (fun _ _ _ _ _ => (pg_name (i := 8) sc_m_faults_of.nd rfl (Or.inl rfl))) (fun _ _ _ _ _ => (pts_one (PW.pt (pw_or (pt_cmpR (op_eqDK K (huD hr)) (pv 8) (pv 6) (nomark _)) (pw_or1 (pt_cmpR (op_inSeqK K) (pv 8) (pe_dget2 (huX hr) (pv 2) (pv 6) (pe_tup pa_nil) ⟨rfl, rfl, rfl, rfl⟩) rfl)))))) (fun _ _ _ _ _ => (pv 8)))
        (pss_one (ps_if (pt_cmpR (op_eqDK K (huD hr)) (pe_ix (ix_listK K) (pv 7) pe_int (fun _ _ => rfl)) (pv 6) (nomark _)) (pss_one (ps_expr (pe_appendK K (pv 5) (pa_cons (pv 7) pa_nil)))) pss_nil))))
        (pss_one (ps_ret (pv 5)))))),
      body_ok (N := ["names", "together", "groups", "group", "member", "faults", "name", "fault", "other"]) (fun W ts rt xx hB ho hw hp => ?_) h⟩)
  have hK : W.B.K = K := congrArg Bs.K hB
  obtain ⟨o, ns, gs, rfl, hts, hl, hg, hok, hp⟩ := hp
  show Sx W _ [some (T ns), some o, none, none, none, none, none, none, none] _
  have hit : ∀ k : List Grp → Prop, k gs → EvI W (iTup K (tVar 1)) [some (T ns), some o, none, none, none, none, none, none, none] k := fun k q => by
    rcases hts with rfl | ⟨rfl, rfl⟩
    · exact ei_tup hK (ev_var rfl q)
    · exact ei_em hK (ev_var rfl q)
  refine sx_seq (sx_set (α := Dc Grp) (rα := inferInstance) (ev_dc2 (α := Grp) (β := Str) (γ := Grp) (rα := inferInstance) (rβ := inferInstance) (rγ := inferInstance) (fun g => g.xs.map fun m => (m, g)) (hit _ ⟨?_, fun W' sb g hgm => ⟨[3], rfl, ?_⟩, ?_⟩)))
  · have e : (gs.flatMap fun g : Grp => g.xs.map fun m => (m, g)).length = (gs.flatMap Tl.xs).length := by
      rw [List.length_flatMap, List.length_flatMap]
      congr 1
      exact List.map_congr_left fun g _ => List.length_map _
    exact Nat.le_trans (Nat.le_of_eq e) (by omega)
  · have hB' : W'.B = bs K A := sb.B.trans hB
    have hK' : W'.B.K = K := congrArg Bs.K hB'
    apply tj_name
    refine ei_tup hK' (ev_var rfl ⟨fun m => (m, g), rfl, fun W2 sb2 m hm => ⟨[4], rfl, ?_⟩⟩)
    apply tj_name
    exact ev_var rfl ⟨rfl, ev_var rfl rfl⟩
  show Sx W _ [some (T ns), some o, some (T (Dc.mk (grpD gs))), none, none, none, none, none, none] _
  unfold flF flD at hp
  generalize grpD gs = ds at hp ⊢
  clear hit hts hg
  refine sx_own fun F => ?_
  refine sxm_seq (sxm_new (β := List Str) (rβ := inferInstance) fun Wo hW => evF_lst (el_nil (α := List Str) (rα := inferInstance) ⟨by decide, fun p vs => ?_⟩))
  show SxM W F _ [(p, vs)] [some (T ns), some o, some (T (Dc.mk ds)), none, none, some (T (Ol.mk p vs ([] : List (List Str)))), none, none, none] _
  refine sxm_seq (sxm_forL (α := Str) (rα := inferInstance) hK fun Wo hW => ev_var rfl ⟨fun i L' Γ' => ∃ (vs' : List V) (o6 o7 o8 : Option G.Ty), L' = [(p, vs')] ∧ Γ' = [some (T ns), some o, some (T (Dc.mk ds)), none, none, some (T (Ol.mk p vs' (((ns.take i).filter (keepD ds ns)).map (fltD ds ns)))), o6, o7, o8], ⟨vs, none, none, none, rfl, rfl⟩, ?_, ?_, ?_⟩)
  · rintro i L' Γ' ⟨vs', o6, o7, o8, rfl, rfl⟩
    rfl
  · rintro i nm L' Γ' hnm ⟨vs', o6, o7, o8, rfl, rfl⟩ Wo' hW'
    have hm : nm ∈ ns := List.mem_of_getElem? hnm
    have hstep := flD_take (ds := ds) hnm
    obtain ⟨hd0, tl0, hcons, hd0m⟩ := fltD_head (ds := ds) hm
    have hilt : i < ns.length := (List.getElem?_eq_some_iff.mp hnm).1
    refine ⟨[6], tj_name ?_⟩
    show SxM W F _ [(p, vs')] [some (T ns), some o, some (T (Dc.mk ds)), none, none, some (T (Ol.mk p vs' (((ns.take i).filter (keepD ds ns)).map (fltD ds ns)))), some (T nm), o7, o8] _
    refine sxm_seq (sxm_pure fun Wo3 hW3 => ?_)
    have hB3 : Wo3.B = bs K A := hW3.B.trans hB
    have hK3 : Wo3.B.K = K := congrArg Bs.K hB3
    refine sx_set (α := List Str) (rα := inferInstance) (ev_lcF (α := Str) (β := Str) (rα := inferInstance) (rβ := inferInstance) (fun x => decide (x = nm) || decide (x ∈ ((getDc ds nm).getD ⟨[]⟩).xs)) (fun x => x) hK3 (ev_var rfl ⟨by omega, fun W' sb x hx => ⟨[8], rfl, ?_⟩, ?_⟩))
    · have hB' : W'.B = bs K A := sb.B.trans hB3
      have hK' : W'.B.K = K := congrArg Bs.K hB'
      apply tj_name
      refine et_or (et_test ?_)
      refine ev_eqG hK' (ev_var rfl (ev_var rfl (eqg_in (by decide) (hok x hx) (hok nm hm) ⟨fun h => ⟨fun _ => ev_var rfl ⟨by rw [h]; rfl, rfl⟩, fun h => (nomatch h)⟩, fun h1 => ?_⟩)))
      refine et_test (ev_inST hK' (ev_var rfl (ev_dget2 (β := Grp) (rβ := inferInstance) (ev_var rfl (ev_var rfl (ev_tupT0 ?_))))))
      exact ⟨fun h => ev_var rfl ⟨by rw [h, Bool.or_true], rfl⟩, fun h => by rw [h1, h]; rfl⟩
    rw [List.map_id']
    show SxM W F _ [(p, vs')] [some (T ns), some o, some (T (Dc.mk ds)), none, none, some (T (Ol.mk p vs' (((ns.take i).filter (keepD ds ns)).map (fltD ds ns)))), some (T nm), some (T (fltD ds ns nm)), o8] _
    refine sxm_if fun Wo4 hW4 => ?_
    have hB4 : Wo4.B = bs K A := hW4.B.trans hB
    have hK4 : Wo4.B.K = K := congrArg Bs.K hB4
    refine et_test (ev_eqG hK4 (ev_ixL (α := Str) (rα := inferInstance) hK4 (ev_var rfl (ev_int ⟨hd0, by rw [hcons]; exact atI_nat (j := 0) rfl, ev_var rfl (eqg_in (by decide) (hok hd0 hd0m) (hok nm hm) ?_)⟩))))
    have hkd : keepD ds ns nm = decide (hd0 = nm) := by unfold keepD; rw [hcons]; rfl
    refine ⟨fun h => ?_, fun h => ?_⟩
    · rw [hkd, if_pos h] at hstep
      refine sxm_append (α := List Str) (rα := inferInstance) 0 rfl rfl fun Wo5 hW5 => ev_var rfl ⟨?_, fun v => ⟨vs' ++ [v], some (T nm), some (T (fltD ds ns nm)), o8, rfl, ?_⟩⟩
      · rw [List.length_map]
        have := List.length_filter_le (keepD ds ns) (ns.take i)
        rw [List.length_take] at this
        omega
      · rw [hstep]
        rfl
    · rw [hkd, if_neg (by rw [h]; exact Bool.false_ne_true), List.append_nil] at hstep
      refine sxm_pure fun Wo5 hW5 => sx_next ⟨vs', some (T nm), some (T (fltD ds ns nm)), o8, rfl, ?_⟩
      rw [hstep]
  · rintro L' Γ' ⟨vs', o6, o7, o8, rfl, rfl⟩
    refine sxm_freeze (Γ' := [some (T ns), some o, some (T (Dc.mk ds)), none, none, some (T (((ns.take ns.length).filter (keepD ds ns)).map (fltD ds ns))), o6, o7, o8]) (by walk_at "frz") (sxm_pure fun Wo5 hW5 => ?_)
    rw [List.take_length]
    exact sx_ret (ev_var rfl hp)
def P_Rack_init (K : PySem.W.Frag) (A : Ad) : PI RkB := fun c k x ts => ∃ (o : G.Ty) (gs : List Gau) (grs : List Grp), c = .Rack ∧ ts = [o, T (Tl.mk gs)] ∧ (o = T (Tl.mk grs) ∨ (grs = [] ∧ o = T Em.mk)) ∧ RackT (bs K A) ∧ gs.length ≤ 100 ∧ (grs.flatMap Tl.xs).length ≤ 1000 ∧ (∀ g ∈ gs, NmOk g.nm) ∧ (∀ w ∈ grs.flatMap Tl.xs, NmOk w) ∧
  (match dupF (gs.map Gau.nm) with | some n => x ⟨.DuplicateGauge, [("name", .s n)]⟩ | none => match badG (gs.map Gau.nm) [] (grs.flatMap Tl.xs) with | some (true, n) => x ⟨.UnknownGauge, [("name", .s n)]⟩ | some (false, n) => x ⟨.DuplicateGauge, [("name", .s n)]⟩ | none => k (rkB gs (flF (gs.map Gau.nm) grs)))
theorem ok_Rack_init (tx : Txt K mg A) : FnSK P w K mg base (L2.CX P w) 4 A.f_Rack_init "together" (V.ref A.k_em_Rack_init) (spIn (bs K A) (P_Rack_init K A)) := by
  have G_Rack_contains := ok_Rack_contains (P := P) (w := w) (base := base) tx
  have G_DuplicateGauge_init := ok_DuplicateGauge_init (P := P) (w := w) (base := base) tx
  have G_Rack_refuse_unknown := ok_Rack_refuse_unknown (P := P) (w := w) (base := base) tx
  have G_m_faults_of := ok_m_faults_of (P := P) (w := w) (base := base) tx
  have G_Rack_names := ok_Rack_names (P := P) (w := w) (base := base) tx
  refine fnSK_of cxUp tx.sk_Rack_init sc_Rack_init (fun cdv Ar outer s H vs Q E hr h => ?_)
  · refine ⟨_, (pss_cons (ps_fldK K (pv 0) (pe_lst pa_nil) rfl)
        (pss_cons (ps_for PassesOwn.leaving rfl (pi_tupK K (pv 2)) (pg_name (i := 3) sc_Rack_init.nd rfl (Or.inl rfl)) (pss_cons (ps_if (pt_cmpR (op_inOwn (tx.m_Rack_contains) G_Rack_contains (room hr) pass0) (pe_fldK K (pv 3) rfl) (pv 0) rfl) (pss_one (ps_raise rfl (takes_of rfl rfl rfl rfl) (pmk_oexR tx.xo_DuplicateGauge tx.xi_DuplicateGauge tx.xt_DuplicateGauge G_DuplicateGauge_init (room hr) pass0 rfl tx.c_DuplicateGauge (pa_cons (pe_fldK K (pv 3) rfl) pa_nil)))) pss_nil)
        (pss_one (ps_expr (pe_bm PySem.F.plainAttrs_list PySem.F.slot_list_append PySem.F.type_list_append mt_append (pe_fldK K (pv 0) rfl) (pa_cons (pv 3) pa_nil))))))
        (pss_cons (ps_set (i := 4) sc_Rack_init.nd rfl (Or.inl rfl) (pe_lst pa_nil))
        (pss_cons (ps_for PassesOwn.leaving rfl (pi_tupK K (pv 1)) (pg_name (i := 5) sc_Rack_init.nd rfl (Or.inl rfl)) (pss_one (ps_for PassesOwn.leaving rfl (pi_tupK K (pv 5)) (pg_name (i := 6) sc_Rack_init.nd rfl (Or.inl rfl)) (pss_cons (ps_expr (pe_methZ (E := WE (fun cls d _ H => E cls d H)) (pv 0) (tx.cl_Rack) (tx.m_Rack_refuse_unknown) G_Rack_refuse_unknown (room hr) (passAt (takes_of rfl rfl rfl rfl)) (pa_cons (pe_lst (pa_cons (pv 6) pa_nil)) pa_nil)))
        (pss_cons (ps_if (pt_cmpR (op_inSeqK K) (pv 6) (pv 4) rfl) (pss_one (ps_raise rfl (takes_of rfl rfl rfl rfl) (pmk_oexR tx.xo_DuplicateGauge tx.xi_DuplicateGauge tx.xt_DuplicateGauge G_DuplicateGauge_init (room hr) pass0 rfl tx.c_DuplicateGauge (pa_cons (pv 6) pa_nil)))) pss_nil)
        (pss_one (ps_expr (pe_bm PySem.F.plainAttrs_list PySem.F.slot_list_append PySem.F.type_list_append mt_append (pv 4) (pa_cons (pv 6) pa_nil)))))))))
        (pss_one (ps_fldK K (pv 0) (pe_callR G_m_faults_of (room hr) rfl (tx.g_m_faults_of).g (tx.g_m_faults_of).kp pass0 (pa_cons (pe_methZ0 (E := fun _ => E0) (pv 0) (tx.cl_Rack) (tx.m_Rack_names) G_Rack_names (room hr) passS0) (pa_cons (pv 1) pa_nil))) rfl)))))), ?_⟩
    refine init_ok (N := ["self", "together", "gauges", "each", "grouped", "group", "name"]) (fun W F p dx c ts k x hB hw hp => ?_) h
    have hK : W.B.K = K := congrArg Bs.K hB
    obtain ⟨o, gs, grs, rfl, rfl, hts, hT, hl, hgl, hgo, hwo, hend⟩ := hp
    have hT' : RackT W.B := by rw [hB]; exact hT
    have hcl : L2.Cls K (W.B.cl .Rack) := hK ▸ hT'.cl
    have n1 : NoAttr K (W.B.cl .Rack) "_gauges" := hK ▸ hT'.ng
    have n2 : NoAttr K (W.B.cl .Rack) "_faults" := hK ▸ hT'.nf
    show SxH W F _ [(p, .ins (W.B.cl .Rack) dx [])] [some (T (Oi.mk p .Rack dx [] ())), some o, some (T (Tl.mk gs)), none, none, none, none] _
    refine sxh_seq (sxh_setOl (α := Gau) (rα := inferInstance) (f := "_gauges") hK hcl n1 rfl (by show 0 < 1000; decide) (fun z => (nomatch z)) fun Wo hW => evF_lst (el_nil (α := Gau) (rα := inferInstance) ⟨by decide, fun q vs fs1 => ?_⟩))
    show SxH W F _ [(q, .lst vs), (p, .ins (W.B.cl .Rack) dx fs1)] [some (T (Oi.mk p .Rack dx fs1 ((⟨"_gauges", ⟨q, vs, ([] : List Gau)⟩⟩, ()) : Fd (Ol Gau) × Unit))), some o, some (T (Tl.mk gs)), none, none, none, none] _
    refine sxh_seq (sxh_forI (α := Gau) (rα := inferInstance) fun Wo hW => ?_)
    have hKo : Wo.B.K = K := congrArg Bs.K (hW.B.trans hB)
    refine ei_tup hKo (ev_var rfl ⟨fun i L' Γ' => ∃ (vs' : List V) (o3 : Option G.Ty), dupG ((gs.map Gau.nm).take i) ((gs.map Gau.nm).drop i) = dupF (gs.map Gau.nm) ∧ L' = [(q, .lst vs'), (p, .ins (W.B.cl .Rack) dx fs1)] ∧ Γ' = [some (T (Oi.mk p .Rack dx fs1 ((⟨"_gauges", ⟨q, vs', gs.take i⟩⟩, ()) : Fd (Ol Gau) × Unit))), some o, some (T (Tl.mk gs)), o3, none, none, none], ⟨vs, none, rfl, rfl, rfl⟩, ?_, ?_, ?_⟩)
    · rintro i L' Γ' ⟨vs', o3, _, rfl, rfl⟩
      rfl
    · rintro i g L' Γ' hg ⟨vs', o3, hd, rfl, rfl⟩ Wo' hW'
      have hgm := List.mem_of_getElem? hg
      have hil : i < gs.length := (List.getElem?_eq_some_iff.mp hg).1
      have hgi : (gs.map Gau.nm)[i]? = some g.nm := by rw [List.getElem?_map, hg]; rfl
      have hstep := dupG_step hgi rfl
      rw [hd] at hstep
      refine ⟨[3], tj_name ?_⟩
      show SxH W F _ [(q, .lst vs'), (p, .ins (W.B.cl .Rack) dx fs1)] [some (T (Oi.mk p .Rack dx fs1 ((⟨"_gauges", ⟨q, vs', gs.take i⟩⟩, ()) : Fd (Ol Gau) × Unit))), some o, some (T (Tl.mk gs)), some (T g), none, none, none] _
      refine sxh_seq (sxh_lookIf (Γ' := [some (T (Rp.mk (gs.take i))), some o, some (T (Tl.mk gs)), some (T g), none, none, none]) (.ownJ (fun W' H' e pin hf => rp_look hT' (List.mem_cons_of_mem _ List.mem_cons_self) List.mem_cons_self W' H' e pin hf) (.same (.same (.same (.same (.same (.same .nil))))))) ?_)
      refine et_test (ev_inOwn (β := Rp) (rβ := inferInstance) hB (ev_gname hK (hB ▸ gauT tx) (ev_var rfl (ev_var rfl (own_in rfl ⟨_, gs.take i, g.nm, rfl, .inl rfl, by rw [List.length_take]; omega, ⟨_, rfl, ?_⟩⟩)))))
      rw [List.map_take]
      refine ⟨fun h1 => ?_, fun h1 => ?_⟩
      · rw [if_pos (of_decide_eq_true h1)] at hstep
        rw [hstep] at hend
        refine sxh_pure fun Wo2 hW2 => ?_
        have hB2 : Wo2.B = bs K A := hW2.B.trans hB
        have hK2 : Wo2.B.K = K := congrArg Bs.K hB2
        refine sx_raise (c := .DuplicateGauge) (Wx := fun cls d _ H => E cls d H) hB2 rfl (hx_of (hW2.err E x hw)) ?_
        exact ea_cons (ev_gname hK2 (hB2 ▸ gauT tx) (ev_var rfl (ea_nil ⟨_, shStr_ok (hgo g hgm).rep (hgo g hgm).len, hend⟩)))
      · rw [if_neg (of_decide_eq_false h1)] at hstep
        refine sxh_next ?_
        refine sxh_appendF (α := Gau) (rα := inferInstance) 1 0 hK hcl n1 rfl rfl rfl fun Wo2 hW2 => ev_var rfl ⟨by rw [List.length_take]; omega, fun v => ⟨vs' ++ [v], some (T g), hstep.symm, rfl, ?_⟩⟩
        rw [List.take_succ, hg]
        rfl
    rintro L' Γ' ⟨vs', o3, hd, rfl, rfl⟩
    rw [show (Tl.mk gs).xs.length = gs.length from rfl] at hd ⊢
    rw [show gs.length = (gs.map Gau.nm).length from (List.length_map _).symm, List.drop_length] at hd
    rw [← hd] at hend
    have hend : (match badG (gs.map Gau.nm) [] (grs.flatMap Tl.xs) with | some (true, n) => x ⟨.UnknownGauge, [("name", .s n)]⟩ | some (false, n) => x ⟨.DuplicateGauge, [("name", .s n)]⟩ | none => k (rkB gs (flF (gs.map Gau.nm) grs))) := hend
    rw [List.take_length]
    clear hd
    refine sxh_rest (Γ' := [some (T (Oi.mk p .Rack dx fs1 ((⟨"_gauges", gs⟩, ()) : Fd (List Gau) × Unit))), some o, some (T (Tl.mk gs)), o3, none, none, none]) (.conv (fun W' H' v e nm hq d => rest_fd W' H' v nm hq d) (.same (.same (.same (.same (.same (.same .nil))))))) ?_
    refine sxh_seq (sxh_newL (β := Str) (rβ := inferInstance) fun Wo hW => evF_lst (el_nil (α := Str) (rα := inferInstance) ⟨by decide, fun q vs => ?_⟩))
    show SxH W F _ [(q, .lst vs), (p, .ins (W.B.cl .Rack) dx fs1)] [some (T (Oi.mk p .Rack dx fs1 ((⟨"_gauges", gs⟩, ()) : Fd (List Gau) × Unit))), some o, some (T (Tl.mk gs)), o3, some (T (Ol.mk q vs ([] : List Str))), none, none] _
    have hit : ∀ (Wo : Wd) (Γ : Gam) (k : List Grp → Prop), Wo.B.K = K → Γ[1]? = some (some o) → k grs → EvI Wo (iTup K (tVar 1)) Γ k := fun Wo Γ k hKo hi q => by
      rcases hts with rfl | ⟨rfl, rfl⟩
      · exact ei_tup hKo (ev_var hi q)
      · exact ei_em hKo (ev_var hi q)
    refine sxh_seq (sxh_forI (α := Grp) (rα := inferInstance) fun Wo hW => hit Wo _ _ (congrArg Bs.K (hW.B.trans hB)) rfl ?_)
    refine ⟨fun i L' Γ' => ∃ (vs' : List V) (o5 o6 : Option G.Ty), badG (gs.map Gau.nm) ((grs.take i).flatMap Tl.xs) ((grs.drop i).flatMap Tl.xs) = badG (gs.map Gau.nm) [] (grs.flatMap Tl.xs) ∧ L' = [(q, .lst vs'), (p, .ins (W.B.cl .Rack) dx fs1)] ∧ Γ' = [some (T (Oi.mk p .Rack dx fs1 ((⟨"_gauges", gs⟩, ()) : Fd (List Gau) × Unit))), some o, some (T (Tl.mk gs)), o3, some (T (Ol.mk q vs' ((grs.take i).flatMap Tl.xs))), o5, o6], ⟨vs, none, none, rfl, rfl, rfl⟩, ?_, ?_, ?_⟩
    · rintro i L' Γ' ⟨vs', o5, o6, _, rfl, rfl⟩
      rfl
    · rintro i gr L' Γ' hgr ⟨vs', o5, o6, hb, rfl, rfl⟩ Wo' hW'
      have hi := (List.getElem?_eq_some_iff.mp hgr).1
      have he := (List.getElem?_eq_some_iff.mp hgr).2
      have hdr : (grs.drop i).flatMap Tl.xs = gr.xs ++ (grs.drop (i + 1)).flatMap Tl.xs := by rw [List.drop_eq_getElem_cons hi, he]; rfl
      have htk : (grs.take (i + 1)).flatMap Tl.xs = (grs.take i).flatMap Tl.xs ++ gr.xs := by
        rw [List.take_succ, hgr, List.flatMap_append]
        simp
      have hall : grs.flatMap Tl.xs = (grs.take i).flatMap Tl.xs ++ (gr.xs ++ (grs.drop (i + 1)).flatMap Tl.xs) := by
        rw [← hdr, ← List.flatMap_append, List.take_append_drop]
      have hlen1 : ((grs.take i).flatMap Tl.xs).length + gr.xs.length ≤ 1000 := by
        rw [hall, List.length_append, List.length_append] at hgl
        omega
      have hw1 : ∀ w ∈ gr.xs, NmOk w := fun w hw => hwo w (by rw [hall]; exact List.mem_append_right _ (List.mem_append_left _ hw))
      rw [hdr] at hb
      clear hdr hall
      obtain ⟨pre, hpre⟩ : ∃ pre, (grs.take i).flatMap Tl.xs = pre := ⟨_, rfl⟩
      obtain ⟨post, hpost⟩ : ∃ post, (grs.drop (i + 1)).flatMap Tl.xs = post := ⟨_, rfl⟩
      rw [hpre, hpost] at hb
      rw [hpre] at hlen1 htk ⊢
      refine ⟨[5], tj_name ?_⟩
      show SxH W F _ [(q, .lst vs'), (p, .ins (W.B.cl .Rack) dx fs1)] [some (T (Oi.mk p .Rack dx fs1 ((⟨"_gauges", gs⟩, ()) : Fd (List Gau) × Unit))), some o, some (T (Tl.mk gs)), o3, some (T (Ol.mk q vs' pre)), some (T gr), o6] _
      refine sxh_forI (α := Str) (rα := inferInstance) fun Wo2 hW2 => ?_
      have hKo2 : Wo2.B.K = K := congrArg Bs.K (hW2.B.trans hB)
      refine ei_tup hKo2 (ev_var rfl ⟨fun j L' Γ' => ∃ (vs' : List V) (o6 : Option G.Ty), badG (gs.map Gau.nm) (pre ++ gr.xs.take j) (gr.xs.drop j ++ post) = badG (gs.map Gau.nm) [] (grs.flatMap Tl.xs) ∧ L' = [(q, .lst vs'), (p, .ins (W.B.cl .Rack) dx fs1)] ∧ Γ' = [some (T (Oi.mk p .Rack dx fs1 ((⟨"_gauges", gs⟩, ()) : Fd (List Gau) × Unit))), some o, some (T (Tl.mk gs)), o3, some (T (Ol.mk q vs' (pre ++ gr.xs.take j))), some (T gr), o6], ⟨vs', o6, by rw [List.take_zero, List.append_nil]; exact hb, rfl, by rw [List.take_zero, List.append_nil]⟩, ?_, ?_, ?_⟩)
      · rintro j L' Γ' ⟨vs', o6, _, rfl, rfl⟩
        rfl
      · rintro j w L' Γ' hwj ⟨vs2, o62, hb2, rfl, rfl⟩ Wo3 hW3
        have hwm := List.mem_of_getElem? hwj
        have hj := (List.getElem?_eq_some_iff.mp hwj).1
        have hn := hw1 w hwm
        have hstep := badG_step (names := gs.map Gau.nm) hwj rfl post pre
        rw [hb2] at hstep
        refine ⟨[6], tj_name ?_⟩
        show SxH W F _ [(q, .lst vs2), (p, .ins (W.B.cl .Rack) dx fs1)] [some (T (Oi.mk p .Rack dx fs1 ((⟨"_gauges", gs⟩, ()) : Fd (List Gau) × Unit))), some o, some (T (Tl.mk gs)), o3, some (T (Ol.mk q vs2 (pre ++ gr.xs.take j))), some (T gr), some (T w)] _
        refine sxh_seq (sxh_lookD (α := Unit) (rα := inferInstance) (Γ' := [some (T (Rp.mk gs)), some o, some (T (Tl.mk gs)), o3, some (T (Ol.mk q vs2 (pre ++ gr.xs.take j))), some (T gr), some (T w)]) (.ownI (List.mem_cons_of_mem _ List.mem_cons_self) (fun W' H' e m hH hf => rp_hden hT' W' H' e m hH hf) (.same (.same (.same (.same (.same (.same .nil))))))) ?_)
        refine ev_methZ (α := Unit) (β := Rp) (rα := inferInstance) (rβ := inferInstance) hB (hx_of (x := x) hw) (ev_var rfl (ownM_in rfl (by decide +kernel) (ea_cons (ev_lst (α := Str) (rα := inferInstance) (el_cons (ev_var rfl (el_nil ⟨by show 1 ≤ 100000; decide, ea_nil ⟨_, gs, [w], rfl, .inl rfl, hl, by show 1 ≤ 1000; decide, ?_, fun hin => ⟨(), rfl, ?_⟩, ?_⟩⟩)))))))
        · intro u hu
          rw [List.mem_singleton.mp hu]
          exact ⟨hn.rep, hn.len⟩
        · have hin : w ∈ gs.map Gau.nm := hin w (List.mem_singleton.mpr rfl)
          rw [if_neg (not_not_intro hin)] at hstep
          refine sxh_seq (sxh_lookIf (Γ' := [some (T (Oi.mk p .Rack dx fs1 ((⟨"_gauges", gs⟩, ()) : Fd (List Gau) × Unit))), some o, some (T (Tl.mk gs)), o3, some (T (pre ++ gr.xs.take j)), some (T gr), some (T w)]) (.same (.same (.same (.same (.ownL List.mem_cons_self (.same (.same .nil))))))) ?_)
          refine et_test (ev_inS hK (ev_var rfl (ev_var rfl ⟨fun h1 => ?_, fun h1 => ?_⟩)))
          · rw [if_pos (of_decide_eq_true h1)] at hstep
            rw [hstep] at hend
            refine sxh_pure fun Wo4 hW4 => ?_
            refine sx_raise (c := .DuplicateGauge) (Wx := fun cls d _ H => E cls d H) (hW4.B.trans hB) rfl (hx_of (hW4.err E x hw)) ?_
            exact ea_cons (ev_var rfl (ea_nil ⟨_, shStr_ok hn.rep hn.len, hend⟩))
          · rw [if_neg (of_decide_eq_false h1)] at hstep
            refine sxh_next ?_
            refine sxh_append (α := Str) (rα := inferInstance) 0 rfl rfl fun Wo4 hW4 => ev_var rfl ⟨?_, fun v => ⟨vs2 ++ [v], some (T w), hstep.symm, rfl, ?_⟩⟩
            · rw [List.length_append, List.length_take]
              omega
            · rw [List.take_succ, hwj, List.append_assoc]
              rfl
        · intro i2 u hu2 _ hnot
          cases i2 with
          | succ i2 => simp at hu2
          | zero =>
            have hu2 : w = u := by simpa using hu2
            subst hu2
            rw [if_pos hnot] at hstep
            rw [hstep] at hend
            exact hend
      · rintro L' Γ' ⟨vs2, o62, hb2, rfl, rfl⟩
        refine ⟨vs2, some (T gr), o62, ?_, rfl, ?_⟩
        · rw [List.take_length, List.drop_length, List.nil_append] at hb2
          rw [htk, hpost]
          exact hb2
        · rw [List.take_length, htk]
    rintro L' Γ' ⟨vs', o5, o6, hb, rfl, rfl⟩
    rw [List.drop_length] at hb
    rw [← hb] at hend
    have hend : k (rkB gs (flF (gs.map Gau.nm) grs)) := hend
    refine sxh_rest (Γ' := [some (T (Oi.mk p .Rack dx fs1 ((⟨"_gauges", gs⟩, ()) : Fd (List Gau) × Unit))), some o, some (T (Tl.mk gs)), o3, none, o5, o6]) (.same (.same (.same (.same (.drop (.same (.same .nil))))))) ?_
    refine sxh_setnW (α := List (List Str)) (rα := inferInstance) (β := Fd (List Gau) × Unit) (fβ := inferInstance) (f := "_faults") (p := p) (dx := dx) (c := .Rack) (fs := fs1) (b := ((⟨"_gauges", gs⟩, ()) : Fd (List Gau) × Unit)) 0 hK hcl n2 rfl rfl (by show 1 < 1000; decide) (by show ("_faults" : Str) ∉ [("_gauges" : Str)]; decide +kernel) fun oF nF wF => ?_
    have hBo : (W.ownH F [(p, .ins (W.B.cl .Rack) dx fs1)] oF nF).B = bs K A := plusL_B.trans hB
    refine ev_callR hBo (ea_cons (α := List Str) (rα := inferInstance) (EvF.k (lookH_F wF (Γ' := [some (T (Rp.mk gs)), some o, some (T (Tl.mk gs)), o3, none, o5, o6]) (.ownI List.mem_cons_self (fun W' H' e m hH hf => rp_hden hT' W' H' e m hH hf) (.same (.same (.same (.same (.same (.same .nil))))))) (evF_methFr (α := Rp) (rα := inferInstance) hB (ev_var rfl (ownM_in rfl (by decide +kernel) (ea_nil ⟨gs, .inl rfl, hl, ?_⟩)))))))
    refine ea_varO rfl (ea_nil ⟨o, gs.map Gau.nm, grs, rfl, hts, by rw [List.length_map]; exact hl, hgl, ?_, ⟨_, rfl, fun fs2 => ⟨_, _, rfl, rfl, hend⟩⟩⟩)
    intro n hn
    obtain ⟨g, hg, rfl⟩ := List.mem_map.mp hn
    exact (hgo g hg).ok
def P_Rack_of : PT := fun rt xx ts => ∃ (o : G.Ty) (gs : List Gau) (grs : List Grp), ts = [T (Cv.mk .Rack), T gs, o] ∧ (o = T (Tl.mk grs) ∨ (grs = [] ∧ o = T Em.mk)) ∧ gs.length ≤ 100 ∧ (grs.flatMap Tl.xs).length ≤ 1000 ∧ (∀ g ∈ gs, NmOk g.nm) ∧ (∀ w ∈ grs.flatMap Tl.xs, NmOk w) ∧
  (match dupF (gs.map Gau.nm) with | some n => xx ⟨.DuplicateGauge, [("name", .s n)]⟩ | none => match badG (gs.map Gau.nm) [] (grs.flatMap Tl.xs) with | some (true, n) => xx ⟨.UnknownGauge, [("name", .s n)]⟩ | some (false, n) => xx ⟨.DuplicateGauge, [("name", .s n)]⟩ | none => rt (T (Rk.mk gs (flF (gs.map Gau.nm) grs))))
theorem ok_Rack_of (tx : Txt K mg A) : FnR P w K mg base (L2.CX P w) 6 A.f_Rack_of (spG (bs K A) P_Rack_of) ∧ FnR P w K mg base (L2.CX P w) 6 A.f_Rack_of (spDf (V.ref A.k_em_Rack_of) (spG (bs K A) P_Rack_of)) := by
  have G_Rack_init := ok_Rack_init (P := P) (w := w) (base := base) tx
  refine fnR_ofD tx.dd_Rack_of sc_Rack_of (len_ok (n := 3) fun rt xx ts hp => by obtain ⟨_, _, _, rfl, _⟩ := hp; rfl) (fun cdv Ar outer s H vs Q E hr h => ⟨_, (pss_one (ps_ret (pe_makeVSK K (i := 0) (E := WE (fun cls d _ H => E cls d H)) tx.m_Rack G_Rack_init (room hr) (passAt (takes_of rfl rfl rfl rfl)) rfl (Or.inl rfl) (pv 1) (pv 2)))),
      body_ok (N := ["cls", "gauges", "together"]) (fun W ts rt xx hB ho hw hp => ?_) h⟩)
  have hK : W.B.K = K := congrArg Bs.K hB
  obtain ⟨o, gs, grs, rfl, hts, hl, hgl, hgo, hwo, hend⟩ := hp
  show Sx W _ [some (T (Cv.mk .Rack)), some (T gs), some o] _
  refine sx_ret (α := Rk) (rα := inferInstance) (ev_makeVSK (α := Rk) (β := RkB) (γ := Gau) (rα := inferInstance) (rγ := inferInstance) (fun b : RkB => Rk.mk b.2.1.a b.1.a) (fun b => b = rkB b.2.1.a b.1.a) hB hK rfl rfl (hx_of hw) (fun W' H p dx fs b hB' m hH hf hg => rk_hden (rackT tx) W' H p dx fs b hB' m hH hf hg) (ev_var rfl (eo_var rfl ⟨by omega, o, gs, grs, rfl, rfl, hts, rackT tx, hl, hgl, hgo, hwo, ?_⟩)))
  cases h1 : dupF (gs.map Gau.nm) with
  | some n => rw [h1] at hend; exact hend
  | none =>
    rw [h1] at hend
    show (match badG (gs.map Gau.nm) [] (grs.flatMap Tl.xs) with | some (true, n) => _ | some (false, n) => _ | none => _)
    have hend : (match badG (gs.map Gau.nm) [] (grs.flatMap Tl.xs) with | some (true, n) => xx ⟨.UnknownGauge, [("name", .s n)]⟩ | some (false, n) => xx ⟨.DuplicateGauge, [("name", .s n)]⟩ | none => rt (T (Rk.mk gs (flF (gs.map Gau.nm) grs)))) := hend
    cases h2 : badG (gs.map Gau.nm) [] (grs.flatMap Tl.xs) with
    | none => rw [h2] at hend; exact ⟨rfl, hend⟩
    | some bn =>
      obtain ⟨b, n⟩ := bn
      rw [h2] at hend
      cases b with
      | true => exact hend
      | false => exact hend
def P_m_without : PT := fun rt xx ts => ∃ (ns : List Str) (n : Str), ts = [T ns, T n] ∧ (ns.length ≤ 1000 ∧ (∀ m ∈ ns, PyData.strOk m = true) ∧ PyData.strOk n = true ∧ rt (T (ns.filter fun o => decide (o ≠ n))))
theorem pc_m_without {rt : Ty → Prop} {xx : Xn → Prop} {ns : List Str} {n : Str} (h : ns.length ≤ 1000 ∧ (∀ m ∈ ns, PyData.strOk m = true) ∧ PyData.strOk n = true ∧ rt (T (ns.filter fun o => decide (o ≠ n)))) : P_m_without rt xx [T ns, T n] := ⟨_, _, rfl, h⟩
theorem ok_m_without (tx : Txt K mg A) : FnR P w K mg base CX0 1 A.f_m_without (spG (bs K A) P_m_without) := by
  refine fnR_of tx.g_m_without.d sc_m_without (len_ok (n := 2) fun rt xx ts hp => by obtain ⟨_, _, rfl, _⟩ := hp; rfl) (fun cdv Ar outer s H vs Q E hr h => ⟨_, (pss_one (ps_ret (pe_lc (own := [("other", 2)]) rfl sc_m_without.nd (pi_listK K (pv 0)) (blkOk_by (N := ["names", "name", "other"]) (sc := defScope s_m_without) (by decide +kernel)) (fun _ _ _ _ _ => (pg_name (i := 2) sc_m_without.nd rfl (Or.inl rfl))) (fun _ _ _ _ _ => (pts_one (pt_cmpR (op_neDK K (huD hr)) (pv 2) (pv 1) (nomark _)))) (fun _ _ _ _ _ => (pv 2))))),
      body_ok (N := ["names", "name", "other"]) (fun W ts rt xx hB ho hw hp => ?_) h⟩)
  have hK : W.B.K = K := congrArg Bs.K hB
  obtain ⟨ns, n, rfl, hp⟩ := hp
  show Sx W _ [some (T ns), some (T n), none] _
  obtain ⟨hl, hok, hn, hp⟩ := hp
  refine sx_ret (α := List Str) (rα := inferInstance) (ev_lcF (α := Str) (β := Str) (fun o => decide (o ≠ n)) (fun o => o) hK (ev_var rfl ⟨by omega, fun W' sb o ho => ⟨[2], rfl, tj_name (et_test (ev_neG (α := Str) (rα := inferInstance) (congrArg Bs.K (sb.B.trans hB)) (ev_var rfl (ev_var rfl (neg_in (by decide) (hok o ho) hn ⟨fun h => ev_var rfl ⟨?_, rfl⟩, fun h => ?_⟩)))))⟩, ?_⟩))
  · rw [decide_not]
    exact h
  · rw [decide_not]
    exact h
  · rw [List.map_id']
    exact hp
/-- the median of the readings, the greatest distance from it and the first name that lies so far -/
structure FarR (ns : List Str) (ds : List (Str × Int)) (med most : Int) (far : Str) : Prop where
  hmed : ∃ bs : List Int, bs.Perm (ns.map (rdF ds)) ∧ bs.Pairwise (· ≤ ·) ∧ bs[(ns.length - 1) / 2]? = some med
  hmem : far ∈ ns
  hfar : ((rdF ds far - med).natAbs : Int) = most
  hub : ∀ n ∈ ns, ((rdF ds n - med).natAbs : Int) ≤ most
  hfst : ns[(ns.map fun n => ((rdF ds n - med).natAbs : Int)).idxOf most]? = some far
theorem farR_uniq {ns : List Str} {ds : List (Str × Int)} {m1 m2 a1 a2 : Int} {f1 f2 : Str} (h1 : FarR ns ds m1 a1 f1) (h2 : FarR ns ds m2 a2 f2) : m1 = m2 ∧ a1 = a2 ∧ f1 = f2 := by
  obtain ⟨b1, p1, w1, g1⟩ := h1.hmed
  obtain ⟨b2, p2, w2, g2⟩ := h2.hmed
  have e : b1 = b2 := List.Perm.eq_of_pairwise (le := (· ≤ ·)) (fun a b _ _ h1 h2 => Int.le_antisymm h1 h2) w1 w2 (p1.trans p2.symm)
  subst e
  rw [g1] at g2
  have em : m1 = m2 := Option.some.inj g2
  subst em
  have ea : a1 = a2 := by
    have x1 := h1.hub f2 h2.hmem
    have x2 := h2.hub f1 h1.hmem
    have y1 := h1.hfar
    have y2 := h2.hfar
    omega
  subst ea
  have z1 := h1.hfst
  have z2 := h2.hfst
  rw [z1] at z2
  exact ⟨rfl, rfl, Option.some.inj z2⟩
def P_m_farthest : PT := fun rt xx ts => ∃ (ns : List Str) (ds : List (Str × Int)), ts = [T ns, T (Dc.mk ds)] ∧ (0 < ns.length ∧ ns.length ≤ 1000 ∧ (∀ n ∈ ns, (getDc ds n).isSome = true) ∧ ∀ med most far, FarR ns ds med most far → rt (T (T3.mk med most far)))
theorem pc_m_farthest {rt : Ty → Prop} {xx : Xn → Prop} {ns : List Str} {ds : List (Str × Int)} (h : 0 < ns.length ∧ ns.length ≤ 1000 ∧ (∀ n ∈ ns, (getDc ds n).isSome = true) ∧ ∀ med most far, FarR ns ds med most far → rt (T (T3.mk med most far))) : P_m_farthest rt xx [T ns, T (Dc.mk ds)] := ⟨_, _, rfl, h⟩
theorem ok_m_farthest (tx : Txt K mg A) : FnR P w K mg base CX0 1 A.f_m_farthest (spG (bs K A) P_m_farthest) := by
  refine fnR_of tx.g_m_farthest.d sc_m_farthest (len_ok (n := 2) fun rt xx ts hp => by obtain ⟨_, _, rfl, _⟩ := hp; rfl) (fun cdv Ar outer s H vs Q E hr h => ⟨_, (pss_cons (ps_set (i := 2) sc_m_farthest.nd rfl (Or.inr rfl) (pe_ix (ix_listK K) (pe_callB cr_sortedI (by rfl) tx.z_sorted (by decide +kernel) (pa_cons (pe_lc (own := [("name", 3)]) rfl sc_m_farthest.nd (pi_listK K (pv 0)) (blkOk_by (N := ["kept", "readings", "answer", "name", "distances", "most"]) (sc := defScope s_m_farthest) (by decide +kernel)) (fun _ _ _ _ _ => (pg_name (i := 3) sc_m_farthest.nd rfl (Or.inl rfl))) (fun _ _ _ _ _ => pts_nil) (fun _ _ _ _ _ => (pe_dget (huX hr) (pv 1) (pv 3) (fun _ _ => rfl)))) pa_nil)) (pe_op op_fdiv (pe_op op_sub (pe_callB (call_lenK K) (by rfl) tx.z_len PySem.boot_len (pa_cons (pv 0) pa_nil)) pe_int) pe_int) (fun _ _ => rfl)))
        (pss_cons (ps_setLc (i := 4) (own := [("name", 3)]) rfl sc_m_farthest.nd rfl rfl (sw_true rfl rfl rfl (by decide +kernel)) (pi_listK K (pv 0)) (blkOk_by (N := ["kept", "readings", "answer", "name", "distances", "most"]) (sc := defScope s_m_farthest) (by decide +kernel)) (fun _ _ _ _ _ => (pg_name (i := 3) sc_m_farthest.nd rfl (Or.inl rfl))) (fun _ _ _ _ _ => pts_nil) (fun _ _ _ _ _ => (pe_callB call_abs (by rfl) tx.z_abs (by decide +kernel) (pa_cons (pe_op op_sub (pe_dget (huX hr) (pv 1) (pv 3) (fun _ _ => rfl)) (pv 2)) pa_nil))))
        (pss_cons (ps_set (i := 5) sc_m_farthest.nd rfl (Or.inl rfl) (pe_callB (cr_max rfl) (by rfl) tx.z_max (by decide +kernel) (pa_cons (pv 4) pa_nil)))
        (pss_one (ps_ret (pe_tup (pa_cons (pv 2) (pa_cons (pv 5) (pa_cons (pe_ix (ix_listK K) (pv 0) (pe_idxIK K (pv 4) (pa_cons (pv 5) pa_nil)) (fun _ _ => rfl)) pa_nil))))))))),
      body_ok (N := ["kept", "readings", "answer", "name", "distances", "most"]) (fun W ts rt xx hB ho hw hp => ?_) h⟩)
  have hK : W.B.K = K := congrArg Bs.K hB
  obtain ⟨ns, ds, rfl, hp⟩ := hp
  show Sx W _ [some (T ns), some (T (Dc.mk ds)), none, none, none, none] _
  obtain ⟨h0, hl, hd, hp⟩ := hp
  have hget : ∀ n ∈ ns, getDc ds n = some (rdF ds n) := fun n hn => by
    obtain ⟨b, hb⟩ := Option.isSome_iff_exists.mp (hd n hn)
    unfold rdF
    rw [hb]
    rfl
  refine sx_seq (sx_set (α := Int) (rα := inferInstance) (ev_ixL (α := Int) (rα := inferInstance) hK (ev_sortedI hK (ev_lcF (α := Str) (β := Int) (fun _ => true) (rdF ds) hK (ev_var rfl ⟨by omega, fun W' sb n hn => ⟨[3], rfl, tj_name (et_yes ⟨fun _ => ev_dget (ev_var rfl (ev_var rfl ⟨_, hget n hn, rfl, rfl⟩)), fun h => (nomatch h)⟩)⟩, fun bs hpm hpw => ?_⟩)))))
  rw [filtT] at hpm
  have hbl : bs.length = ns.length := by rw [hpm.length_eq, List.length_map]
  have hmi : (ns.length - 1) / 2 < bs.length := by omega
  walk_at "g"
  refine ⟨bs[(ns.length - 1) / 2], ?_, ?_⟩
  · have e : ((ns.length : Int) - 1) / 2 = (((ns.length - 1) / 2 : Nat) : Int) := by omega
    rw [show (((ns.length : Int) - 1) / 2) = (((ns.length - 1) / 2 : Nat) : Int) from e]
    exact atI_nat (List.getElem?_eq_getElem hmi)
  generalize hmed : bs[(ns.length - 1) / 2] = med
  have hbm : bs[(ns.length - 1) / 2]? = some med := by rw [List.getElem?_eq_getElem hmi, hmed]
  show Sx W _ [some (T ns), some (T (Dc.mk ds)), some (T med), none, none, none] _
  refine sx_seq (sx_set (α := List Int) (rα := inferInstance) (ev_lcF (α := Str) (β := Int) (fun _ => true) (fun n => ((rdF ds n - med).natAbs : Int)) hK (ev_var rfl ⟨by omega, fun W' sb n hn => ⟨[3], rfl, tj_name (et_yes ⟨fun _ => ev_abs (ev_opI (ev_dget (ev_var rfl (ev_var rfl ⟨_, hget n hn, ev_var rfl ⟨rfl, rfl⟩⟩)))), fun h => (nomatch h)⟩)⟩, ?_⟩)))
  rw [filtT]
  refine sx_seq (sx_set (α := Int) (rα := inferInstance) (ev_maxL hK (ev_var rfl ⟨by rw [List.length_map]; exact h0, fun most hm hub => ?_⟩)))
  have hi : (ns.map fun n => ((rdF ds n - med).natAbs : Int)).idxOf most < ns.length := by
    have := List.idxOf_lt_length_of_mem hm
    rwa [List.length_map] at this
  refine sx_ret (α := T3 Int Int Str) (rα := inferInstance) (ev_tup3 (ev_var rfl (ev_var rfl (ev_ixL (α := Str) (rα := inferInstance) hK (ev_var rfl (ev_idxI hK (ev_var rfl (ev_var rfl ⟨hm, _, atI_nat (List.getElem?_eq_getElem hi), hp med most _ ⟨⟨bs, hpm, hpw, hbm⟩, List.getElem_mem hi, ?_, fun n hn => hub _ (List.mem_map.mpr ⟨n, hn, rfl⟩), List.getElem?_eq_getElem hi⟩⟩))))))))
  have h1 := List.getElem_idxOf (xs := ns.map fun n => ((rdF ds n - med).natAbs : Int)) (x := most) (by rw [List.length_map]; exact hi)
  rw [List.getElem_map] at h1
  exact h1
theorem ok_MissingReading_init (tx : Txt K mg A) : FnR P w K mg base CX0 1 A.f_MissingReading_init (spEr A.c_MissingReading (shStr "name")) := by
  refine fnR_of tx.d_MissingReading_init sc_MissingReading_init (fun vs H Q E h => ?_) (fun cdv Ar outer s H vs Q E hr h => ?_)
  · obtain ⟨a, as, fs, rfl, ⟨i, rfl, _⟩, _⟩ := h; rfl
  · refine ⟨_, (pss_cons (ps_expr (pe_geinitK K tx.ge (pa_cons (pv 0) (pa_cons (pe_joined (PJ.cons pe_str (PJ.cons (pe_fmtR (pv 1)) (PJ.cons pe_str PJ.nil)))) pa_nil))))
        (pss_one (ps_ostK K (pv 0) (pv 1)))), ?_⟩
    try dsimp only [cxOf, Cx.nox]
    obtain ⟨a, as, fs, rfl, ⟨i, rfl, s1, s2, rfl⟩, ha, k⟩ := h
    exact err_one tx.xo_MissingReading tx.n_MissingReading_name rfl rfl (first_ge tx.xo_MissingReading rfl ha fun Q q => js_ok q (.cons c_is (by decide) (.cons (fmt_rep (var_is rfl) s1) s1 (.cons c_is (by decide) .nil))) (by decide)) ha k
theorem ok_NoLevel_init (tx : Txt K mg A) : FnR P w K mg base CX0 1 A.f_NoLevel_init (spE0 K) := by
  refine fnR_of tx.d_NoLevel_init sc_NoLevel_init (fun vs H Q E h => ?_) (fun cdv Ar outer s H vs Q E hr h => ?_)
  · obtain ⟨a, C, rfl, _⟩ := h; rfl
  · refine ⟨_, (pss_one (ps_expr (pe_geinitK K tx.ge (pa_cons (pv 0) (pa_cons pe_str pa_nil))))), ?_⟩
    try dsimp only [cxOf, Cx.nox]
    obtain ⟨a, C, rfl, T, ha, k⟩ := h
    exact first_ge T rfl ha (fun Q q => q _) _ k
/-- an error with one number -/
def shInt (vs : List V) (fs : List (Str × V)) : Prop := ∃ i : Int, vs = [.int i] ∧ Small i ∧ fs = ([("number", .int i)] : List (Str × V))
theorem shInt_ok {a : Int} (s : Small a) : ShT shInt [T a] [("number", .i a)] := ⟨by show 1 ≤ 1000; decide, fun W H vs h => by
  cases h with
  | cons h1 h =>
  cases h
  exact ⟨_, ⟨_, by rw [show _ = V.int a from h1], s, rfl⟩, .cons (t := .i a) rfl .nil⟩⟩
theorem ok_BadLimit_init (tx : Txt K mg A) : FnR P w K mg base CX0 1 A.f_BadLimit_init (spEr A.c_BadLimit shInt) := by
  refine fnR_of tx.d_BadLimit_init sc_BadLimit_init (fun vs H Q E h => ?_) (fun cdv Ar outer s H vs Q E hr h => ?_)
  · obtain ⟨a, as, fs, rfl, ⟨i, rfl, _⟩, _⟩ := h; rfl
  · refine ⟨_, (pss_cons (ps_expr (pe_geinitK K tx.ge (pa_cons (pv 0) (pa_cons (pe_joined (PJ.cons pe_str (PJ.cons (pe_fmt (pv 1)) (PJ.cons pe_str PJ.nil)))) pa_nil))))
        (pss_one (ps_ostK K (pv 0) (pv 1)))), ?_⟩
    try dsimp only [cxOf, Cx.nox]
    obtain ⟨a, as, fs, rfl, ⟨i, rfl, si, rfl⟩, ha, k⟩ := h
    exact err_one tx.xo_BadLimit tx.n_BadLimit_number rfl rfl (first_ge tx.xo_BadLimit rfl ha fun Q q => js_ok q (.cons c_is (by decide) (.cons (fmt_int (var_is rfl) si) (txt_len si) (.cons c_is (by decide) .nil))) (by decide)) ha k
def P_m_refuse_limit : PT := fun rt xx ts => ∃ (l : Int), ts = [T l] ∧ ((0 ≤ l → rt (T ())) ∧ (l < 0 → Small l ∧ xx ⟨.BadLimit, [("number", .i l)]⟩))
theorem pc_m_refuse_limit {rt : Ty → Prop} {xx : Xn → Prop} {l : Int} (h : (0 ≤ l → rt (T ())) ∧ (l < 0 → Small l ∧ xx ⟨.BadLimit, [("number", .i l)]⟩)) : P_m_refuse_limit rt xx [T l] := ⟨_, rfl, h⟩
theorem ok_m_refuse_limit (tx : Txt K mg A) : FnR P w K mg base (L2.CX P w) 3 A.f_m_refuse_limit (spG (bs K A) P_m_refuse_limit) := by
  have G_BadLimit_init := ok_BadLimit_init (P := P) (w := w) (base := base) tx
  refine fnRX_of tx.g_m_refuse_limit.d sc_m_refuse_limit (len_ok (n := 1) fun rt xx ts hp => by obtain ⟨_, rfl, _⟩ := hp; rfl) (fun cdv Ar outer s H vs Q E hr h => ⟨_, (pss_one (ps_if (pt_cmpR op_lt (pv 0) pe_int (nomark _)) (pss_one (ps_raise rfl (takes_of rfl rfl rfl rfl) (pmk_oexR tx.xo_BadLimit tx.xi_BadLimit tx.xt_BadLimit G_BadLimit_init (room hr) pass0 rfl tx.c_BadLimit (pa_cons (pv 0) pa_nil)))) pss_nil)),
      body_ok (N := ["limit"]) (fun W ts rt xx hB ho hw hp => ?_) h⟩)
  have hK : W.B.K = K := congrArg Bs.K hB
  obtain ⟨l, rfl, hp⟩ := hp
  show Sx W _ [some (T l)] _
  obtain ⟨hyes, hno⟩ := hp
  refine sx_if (et_test (ev_opB (ev_var rfl (ev_int ⟨fun h => ?_, fun h => sx_next (hyes (Int.not_lt.mp (of_decide_eq_false h)))⟩))))
  obtain ⟨sn, hx⟩ := hno (of_decide_eq_true h)
  refine sx_raise (c := .BadLimit) (Wx := fun cls d _ H => E cls d H) hB rfl (hx_of hw) ?_
  exact ea_cons (ev_var rfl (ea_nil ⟨_, shInt_ok sn, hx⟩))
def P_Keeper_init (K : PySem.W.Frag) (A : Ad) : PI KB := fun c k x ts => ∃ (gs : List Gau) (fl : List (List Str)) (lim : Int), c = .Keeper ∧ ts = [T (Rk.mk gs fl), T lim] ∧ KpT (bs K A) ∧ gs.length ≤ 100 ∧ (0 ≤ lim → ∀ q us, k (kpB lim (gs.map Gau.nm) q us [])) ∧ (lim < 0 → Small lim ∧ x ⟨.BadLimit, [("number", .i lim)]⟩)
theorem kpT {K : PySem.W.Frag} {mg : Str → Option Value} {A : Ad} (tx : Txt K mg A) : KpT (bs K A) := ⟨tx.cl_Keeper, tx.n_Keeper__limit, tx.n_Keeper__kept, tx.n_Keeper__dropped⟩
theorem ok_Keeper_init (tx : Txt K mg A) : FnR P w K mg base (L2.CX P w) 4 A.f_Keeper_init (spIx kpC (bs K A) (P_Keeper_init K A)) := by
  have G_m_refuse_limit := ok_m_refuse_limit (P := P) (w := w) (base := base) tx
  have G_Rack_names := ok_Rack_names (P := P) (w := w) (base := base) tx
  refine fnRX_of tx.d_Keeper_init sc_Keeper_init (fun vs H Q E h => ?_) (fun cdv Ar outer s H vs Q E hr h => ?_)
  · obtain ⟨W, F, p, dx, c, ws, ts, k, x, oF, nF, rfl, _, _, _, _, d, ⟨gs, fl, lim, _, rfl, _⟩, _⟩ := h
    have := d.length
    exact congrArg (· + 1) this
  · refine ⟨_, (pss_cons (ps_expr (pe_callZ (E := WE (fun cls d _ H => E cls d H)) G_m_refuse_limit (room hr) rfl (tx.g_m_refuse_limit).g (tx.g_m_refuse_limit).kp (passAt (takes_of rfl rfl rfl rfl)) (pa_cons (pv 2) pa_nil)))
        (pss_cons (ps_fldK K (pv 0) (pv 2) rfl)
        (pss_cons (ps_fldK K (pv 0) (pe_methZ0 (E := fun _ => E0) (pv 1) (tx.cl_Rack) (tx.m_Rack_names) G_Rack_names (room hr) passS0) rfl)
        (pss_one (ps_fldK K (pv 0) (pe_lst pa_nil) rfl))))), ?_⟩
    try dsimp only [cxOf, Cx.nox]
    refine init_okx (N := ["self", "rack", "limit"]) (fun W F p dx c ts k x hB hw hp => ?_) h
    have hK : W.B.K = K := congrArg Bs.K hB
    obtain ⟨gs, fl, lim, rfl, rfl, hT, hl, hk, hx⟩ := hp
    show SxH W F _ [(p, .ins (W.B.cl .Keeper) dx [])] [some (T (Oi.mk p .Keeper dx [] ())), some (T (Rk.mk gs fl)), some (T lim)] _
    have hT' : KpT W.B := by rw [hB]; exact hT
    have hcl : L2.Cls K (W.B.cl .Keeper) := hK ▸ hT'.cl
    have n1 : NoAttr K (W.B.cl .Keeper) "_limit" := hK ▸ hT'.nl
    have n2 : NoAttr K (W.B.cl .Keeper) "_kept" := hK ▸ hT'.nk
    have n3 : NoAttr K (W.B.cl .Keeper) "_dropped" := hK ▸ hT'.nd
    refine sxh_seq (sxh_pure fun Wo hW => sx_drop (α := Unit) (rα := inferInstance) (ev_callZ (hW.B.trans hB) (hx_of (hW.err E x hw)) (ea_cons (ev_var rfl (ea_nil (pc_m_refuse_limit ⟨fun h0 => ⟨(), rfl, ?_⟩, fun h => hx h⟩))))))
    refine sxh_seq (sxh_setn (α := Int) (rα := inferInstance) (f := "_limit") 0 hK hcl n1 rfl rfl (by show 0 < 1000; decide) (fun z => (nomatch z)) fun Wo hW => ev_var rfl fun fs1 => ?_)
    refine sxh_seq (sxh_setn (α := List Str) (rα := inferInstance) (f := "_kept") 0 hK hcl n2 rfl rfl (by show 1 < 1000; decide) (by show ("_kept" : Str) ∉ [("_limit" : Str)]; decide +kernel) fun Wo hW => EvF.k (evF_methFr (α := Rk) (hW.B.trans hB) (ev_var rfl (ownM_in rfl (by decide +kernel) (ea_nil ⟨gs, .inr ⟨fl, rfl⟩, hl, fun fs2 => ?_⟩)))))
    exact sxh_setOl (α := Str) (rα := inferInstance) (f := "_dropped") hK hcl n3 rfl (by show 2 < 1000; decide) (by show ("_dropped" : Str) ∉ [("_limit" : Str), ("_kept" : Str)]; decide +kernel) fun Wo hW => evF_lst (el_nil (α := Str) (rα := inferInstance) ⟨by decide, fun q us fs3 => ⟨fs3, kpB lim (gs.map Gau.nm) q us [], rfl, rfl, hk h0 q us⟩⟩)
def P_Keeper_kept : PF Str := fun k ts => ∃ (lim : Int) (ks gone : List Str), ts = [T (Kd.mk lim ks gone)] ∧ k ks
theorem ok_Keeper_kept (tx : Txt K mg A) : FnR P w K mg base CX0 1 A.f_Keeper_kept (spFr (bs K A) P_Keeper_kept) := by
  refine fnR_of tx.d_Keeper_kept sc_Keeper_kept (fun vs H Q E h => ?_) (fun cdv Ar outer s H vs Q E hr h => ?_)
  · obtain ⟨W, ts, k, _, _, _, d, ⟨lim, ks, gone, rfl, _⟩, _⟩ := h
    exact d.length
  · refine ⟨_, (pss_one (ps_ret (pe_callTy (call_list_ofK K) (by rfl) tx.z_list (by decide +kernel) (pa_cons (pe_fldK K (pv 0) rfl) pa_nil)))), ?_⟩
    try dsimp only [cxOf, Cx.nox]
    obtain ⟨W, ts, k, hB, ho, hw, d, ⟨lim, ks, gone, rfl, kk⟩, hq⟩ := h
    have hK : W.B.K = K := congrArg Bs.K hB
    have G0 : GOk W H (L2.start ["self"] vs) [some (T (Kd.mk lim ks gone))] := start_ok ho hw d
    exact (show EvF W _ _ fun bs => bs = ks from evF_listOf (α := Str) (rα := inferInstance) hK (ev_kkept hK (ev_var rfl rfl))) _ H _ G0 fun p H' ws bs n e hp hd q => hq p H' ws bs n e hp hd (q ▸ kk)
def P_Keeper_dropped : PF Str := fun k ts => ∃ (lim : Int) (ks gone : List Str), ts = [T (Kd.mk lim ks gone)] ∧ k gone
theorem ok_Keeper_dropped (tx : Txt K mg A) : FnR P w K mg base CX0 1 A.f_Keeper_dropped (spFr (bs K A) P_Keeper_dropped) := by
  refine fnR_of tx.d_Keeper_dropped sc_Keeper_dropped (fun vs H Q E h => ?_) (fun cdv Ar outer s H vs Q E hr h => ?_)
  · obtain ⟨W, ts, k, _, _, _, d, ⟨lim, ks, gone, rfl, _⟩, _⟩ := h
    exact d.length
  · refine ⟨_, (pss_one (ps_ret (pe_callTy (call_list_ofK K) (by rfl) tx.z_list (by decide +kernel) (pa_cons (pe_fldK K (pv 0) rfl) pa_nil)))), ?_⟩
    try dsimp only [cxOf, Cx.nox]
    obtain ⟨W, ts, k, hB, ho, hw, d, ⟨lim, ks, gone, rfl, kk⟩, hq⟩ := h
    have hK : W.B.K = K := congrArg Bs.K hB
    have G0 : GOk W H (L2.start ["self"] vs) [some (T (Kd.mk lim ks gone))] := start_ok ho hw d
    exact (show EvF W _ _ fun bs => bs = gone from evF_listOf (α := Str) (rα := inferInstance) hK (ev_kgone hK (ev_var rfl rfl))) _ H _ G0 fun p H' ws bs n e hp hd q => hq p H' ws bs n e hp hd (q ▸ kk)
def P_Keeper_take (K : PySem.W.Frag) (A : Ad) : PMx KB := fun c b0 k ts => ∃ (lim : Int) (ks : List Str) (q : Addr) (us : List V) (gone : List Str) (ds : List (Str × Int)), c = .Keeper ∧ b0 = kpB lim ks q us gone ∧ ts = [T (Dc.mk ds)] ∧ KpT (bs K A) ∧ 0 < ks.length ∧ ks.length ≤ 1000 ∧ (∀ m ∈ ks, PyData.strOk m = true) ∧ gone.length < 1000 ∧ (∀ m ∈ ks, (getDc ds m).isSome = true) ∧
  ∀ med most far, FarR ks ds med most far → (most ≤ lim → k (kpB lim ks q us gone) (T med)) ∧ (lim < most → ∀ us', k (kpB lim (ks.filter fun o => decide (o ≠ far)) q us' (gone ++ [far])) (T med))
def P_ktakeX : PT := fun rt xx ts => ∃ (lim : Int) (ks gone : List Str) (ds : List (Str × Int)), ts = [T (Kd.mk lim ks gone), T (Dc.mk ds)] ∧ ks.length ≤ 1000 ∧ ((∃ (i : Nat) (w : Str), ks[i]? = some w ∧ getDc ds w = none ∧ (∀ j, j < i → ∀ m, ks[j]? = some m → (getDc ds m).isSome = true) ∧ (reprText w).length ≤ 3000 ∧ w.length ≤ 3000 ∧ xx ⟨.MissingReading, [("name", .s w)]⟩) ∨ (ks = [] ∧ xx ⟨.NoLevel, []⟩))
def spKtake (K : PySem.W.Frag) (A : Ad) : Sp := fun vs H Q E => spG (bs K A) P_ktakeX vs H Q E ∨ spMx kpC (bs K A) (P_Keeper_take K A) vs H Q E
theorem ok_Keeper_take (tx : Txt K mg A) : FnR P w K mg base (L2.CX P w) 3 A.f_Keeper_take (spKtake K A) := by
  have G_MissingReading_init := ok_MissingReading_init (P := P) (w := w) (base := base) tx
  have G_NoLevel_init := ok_NoLevel_init (P := P) (w := w) (base := base) tx
  have G_m_farthest := ok_m_farthest (P := P) (w := w) (base := base) tx
  have G_m_without := ok_m_without (P := P) (w := w) (base := base) tx
  refine fnRX_of tx.d_Keeper_take sc_Keeper_take (fun vs H Q E h => ?_) (fun cdv Ar outer s H vs Q E hr h => ?_)
  · rcases h with h | h
    · obtain ⟨W, ts, rt, xx, _, _, d, ⟨lim, ks, gone, ds, rfl, _⟩, _⟩ := h
      exact d.length
    · obtain ⟨W, F, M, p, dx, c, fs0, b0, ws, ts, k, oF, nF, rfl, _, _, _, _, _, _, d, ⟨lim, ks, q, us, gone, ds, _, _, rfl, _⟩, _⟩ := h
      have := d.length
      exact congrArg (· + 1) this
  · refine ⟨_, (pss_cons (ps_for PassesOwn.leaving rfl (pi_listK K (pe_fldK K (pv 0) rfl)) (pg_name (i := 2) sc_Keeper_take.nd rfl (Or.inl rfl)) (pss_one (ps_if (pt_cmp (pc_dnotin (huX hr) (pv 2) (pv 1))) (pss_one (ps_raise rfl (takes_of rfl rfl rfl rfl) (pmk_oexR tx.xo_MissingReading tx.xi_MissingReading tx.xt_MissingReading G_MissingReading_init (room hr) pass0 rfl tx.c_MissingReading (pa_cons (pv 2) pa_nil)))) pss_nil)))
        (pss_cons (ps_if (pt_not (pt_truthK K (pe_fldK K (pv 0) rfl) (fun _ => rfl))) (pss_one (ps_raise rfl (takes_of rfl rfl rfl rfl) (pmk_oexR0 tx.xo_NoLevel tx.xi_NoLevel tx.xt_NoLevel G_NoLevel_init (room hr) pass0 rfl tx.c_NoLevel))) pss_nil)
        (pss_cons (ps_asg (pe_callR G_m_farthest (room hr) rfl (tx.g_m_farthest).g (tx.g_m_farthest).kp pass0 (pa_cons (pe_fldK K (pv 0) rfl) (pa_cons (pv 1) pa_nil))) (pg_tupK (n := 3) K rfl (pgs_cons (pg_name (i := 3) sc_Keeper_take.nd rfl (Or.inl rfl)) (pgs_cons (pg_name (i := 4) sc_Keeper_take.nd rfl (Or.inl rfl)) (pgs_cons (pg_name (i := 5) sc_Keeper_take.nd rfl (Or.inl rfl)) pgs_nil)))))
        (pss_cons (ps_if (pt_cmpR op_gt (pv 4) (pe_fldK K (pv 0) rfl) (nomark _)) (pss_cons (ps_fldK K (pv 0) (pe_callR G_m_without (room hr) rfl (tx.g_m_without).g (tx.g_m_without).kp pass0 (pa_cons (pe_fldK K (pv 0) rfl) (pa_cons (pv 5) pa_nil))) rfl)
        (pss_one (ps_expr (pe_bm PySem.F.plainAttrs_list PySem.F.slot_list_append PySem.F.type_list_append mt_append (pe_fldK K (pv 0) rfl) (pa_cons (pv 5) pa_nil))))) pss_nil)
        (pss_one (ps_ret (pv 3))))))), ?_⟩
    try dsimp only [cxOf, Cx.nox]
    rcases h with h | h
    · refine body_ok (N := ["self", "readings", "name", "answer", "most", "farthest"]) (fun W ts rt xx hB ho hw hp => ?_) h
      have hK : W.B.K = K := congrArg Bs.K hB
      obtain ⟨lim, ks, gone, ds, rfl, hl, hp⟩ := hp
      show Sx W _ [some (T (Kd.mk lim ks gone)), some (T (Dc.mk ds)), none, none, none, none] _
      refine sx_seq (sx_forL (α := Str) (rα := inferInstance) hK (ev_kkept hK (ev_var rfl ⟨fun i Γ' => ∃ o2 : Option G.Ty, (∀ j, j < i → ∀ m, ks[j]? = some m → (getDc ds m).isSome = true) ∧ Γ' = [some (T (Kd.mk lim ks gone)), some (T (Dc.mk ds)), o2, none, none, none], ⟨none, fun j hj => absurd hj (Nat.not_lt_zero _), rfl⟩, ?_, ?_⟩)))
      · rintro i w Γ' hw' ⟨o2, hall, rfl⟩
        refine tg_name ?_
        refine sx_if (et_test (ev_dnotin (ev_var rfl (ev_var rfl ⟨fun h => ?_, fun h => sx_next ⟨_, fun j hj m hm => ?_, rfl⟩⟩))))
        · have h : getDc ds w = none := by
            cases e : getDc ds w with
            | none => rfl
            | some b => rw [e] at h; cases h
          rcases hp with ⟨i2, w2, hi2, hn2, hb2, s1, s2, hx⟩ | ⟨hp, _⟩
          · have hii : i = i2 := by
              rcases Nat.lt_trichotomy i i2 with z | z | z
              · have := hb2 i z w hw'
                rw [h] at this
                cases this
              · exact z
              · have := hall i2 z w2 hi2
                rw [hn2] at this
                cases this
            subst hii
            rw [hw'] at hi2
            cases hi2
            refine sx_raise (c := .MissingReading) (Wx := fun cls d _ H => E cls d H) hB rfl (hx_of hw) ?_
            exact ea_cons (ev_var rfl (ea_nil ⟨_, shStr_ok s1 s2, hx⟩))
          · rw [hp] at hw'
            cases hw'
        · rcases Nat.lt_or_eq_of_le (Nat.le_of_lt_succ hj) with hj | rfl
          · exact hall j hj m hm
          · rw [hw'] at hm
            cases hm
            simpa using h
      rintro Γ' ⟨o2, hall, rfl⟩
      rcases hp with ⟨i2, w2, hi2, hn2, _⟩ | ⟨rfl, hx⟩
      · have := hall i2 (List.getElem?_eq_some_iff.mp hi2).1 w2 hi2
        rw [hn2] at this
        cases this
      · refine sx_seq (sx_if (et_not (et_truthL (α := Str) (rα := inferInstance) hK (ev_kkept hK (ev_var rfl ⟨fun _ => ?_, fun h => (nomatch h)⟩)))))
        exact sx_raise0 (c := .NoLevel) (Wx := fun cls d _ H => E cls d H) hB rfl tx.xo_NoLevel (hx_of hw) hx
    · refine mx_ok4 (α := Int) (rα := inferInstance) (N := ["self", "readings", "name", "answer", "most", "farthest"]) (fun W F M p dx c fs0 b0 ts k hB hp => ?_) h
      have hK : W.B.K = K := congrArg Bs.K hB
      obtain ⟨lim, ks, q, us, gone, ds, rfl, rfl, rfl, hT, h0, hl, hks, hgl, hd, hk⟩ := hp
      have hT' : KpT W.B := by rw [hB]; exact hT
      have hcl : L2.Cls K (W.B.cl .Keeper) := hK ▸ hT'.cl
      have n1 : NoAttr K (W.B.cl .Keeper) "_limit" := hK ▸ hT'.nl
      have n2 : NoAttr K (W.B.cl .Keeper) "_kept" := hK ▸ hT'.nk
      have n3 : NoAttr K (W.B.cl .Keeper) "_dropped" := hK ▸ hT'.nd
      have g2 : GetF ("_kept" : Str) inferInstance ks inferInstance (kpB lim ks q us gone) := .there (by show ("_kept" : Str) ≠ "_dropped"; decide +kernel) (.here (by show ("_kept" : Str) ∉ [("_limit" : Str)]; decide +kernel))
      have g1 : GetF ("_limit" : Str) inferInstance lim inferInstance (kpB lim ks q us gone) := .there (by show ("_limit" : Str) ≠ "_dropped"; decide +kernel) (.there (by show ("_limit" : Str) ≠ "_kept"; decide +kernel) (.here (fun z => (nomatch z))))
      show SxH W F _ ((q, .lst us) :: (p, .ins (W.B.cl .Keeper) dx fs0) :: M) [some (T (Oi.mk p .Keeper dx fs0 (kpB lim ks q us gone))), some (T (Dc.mk ds)), none, none, none, none] _
      have hmem : ∀ {fs : List (Str × V)} {us : List V}, (p, HO.ins (W.B.cl .Keeper) dx fs) ∈ (q, HO.lst us) :: (p, HO.ins (W.B.cl .Keeper) dx fs) :: M := fun {_ _} => List.mem_cons_of_mem _ List.mem_cons_self
      refine sxh_seq (sxh_forL (α := Str) (rα := inferInstance) hK fun Wo hW => ev_fldOi hW hK hcl n2 hmem rfl g2 ?_)
      refine ⟨fun i L' Γ' => ∃ o2 : Option G.Ty, L' = (q, .lst us) :: (p, .ins (W.B.cl .Keeper) dx fs0) :: M ∧ Γ' = [some (T (Oi.mk p .Keeper dx fs0 (kpB lim ks q us gone))), some (T (Dc.mk ds)), o2, none, none, none], ⟨none, rfl, rfl⟩, fun i L' Γ' ⟨_, h, _⟩ => by rw [h], ?_, ?_⟩
      · rintro i w L' Γ' hw ⟨o2, rfl, rfl⟩ Wo' hW'
        refine tg_name ?_
        exact sxh_if fun Wo hW => et_test (ev_dnotin (ev_var rfl (ev_var rfl ⟨fun h => absurd (hd w (List.mem_of_getElem? hw)) (by simpa using h), fun _ => sxh_next ⟨_, rfl, rfl⟩⟩)))
      rintro L' Γ' ⟨o2, rfl, rfl⟩
      have hne : (!ks.isEmpty) = true := by
        cases ks with
        | nil => exact absurd h0 (Nat.lt_irrefl 0)
        | cons => rfl
      refine sxh_seq (sxh_if fun Wo hW => et_not (et_truthL (α := Str) (rα := inferInstance) (congrArg Bs.K (hW.B.trans hB)) (ev_fldOi hW hK hcl n2 hmem rfl g2 ⟨fun h => ?_, fun _ => sxh_next ?_⟩)))
      · rw [hne] at h
        cases h
      refine sxh_seq (sxh_pure fun Wo hW => sx_asg (α := T3 Int Int Str) (rα := inferInstance) (ev_callR (hW.B.trans hB) (ea_cons (ev_fldOi hW hK hcl n2 hmem rfl g2 (ea_cons (ev_var rfl (ea_nil (pc_m_farthest ⟨h0, by omega, hd, fun med most far hf => ⟨_, rfl, ?_⟩⟩))))))))
      obtain ⟨k1, k2⟩ := hk med most far hf
      refine tg_of (tj_tup3 (congrArg Bs.K (hW.B.trans hB)) (tj_name (tj_name (tj_name ?_))))
      show SxH W F _ ((q, .lst us) :: (p, .ins (W.B.cl .Keeper) dx fs0) :: M) [some (T (Oi.mk p .Keeper dx fs0 (kpB lim ks q us gone))), some (T (Dc.mk ds)), o2, some (T med), some (T most), some (T far)] _
      refine sxh_if fun Wo hW => et_test (ev_opB (ev_var rfl (ev_fldOi hW hK hcl n1 hmem rfl g1 ⟨fun h => ?_, fun h => sxh_next ⟨fs0, _, rfl, rfl, rfl, fun oF nF wF => ev_var rfl (k1 (Int.not_lt.mp (of_decide_eq_false h)))⟩⟩)))
      refine sxh_seq (sxh_setf (α := List Str) (rα := inferInstance) (f := "_kept") 1 (fun ks' => kpB lim ks' q us gone) hK hcl n2 rfl rfl (by show 3 < 1000; decide) (fun W' H v a d z => kp_putK d z) fun Wo hW => ev_callR (hW.B.trans hB) (ea_cons (ev_fldOi hW hK hcl n2 hmem rfl g2 (ea_cons (ev_var rfl (ea_nil (pc_m_without ⟨by omega, hks, hks far hf.hmem, _, rfl, fun fs2 => ?_⟩)))))))
      show SxH W F _ ((q, .lst us) :: (p, .ins (W.B.cl .Keeper) dx fs2) :: M) [some (T (Oi.mk p .Keeper dx fs2 (kpB lim (ks.filter fun o => decide (o ≠ far)) q us gone))), some (T (Dc.mk ds)), o2, some (T med), some (T most), some (T far)] _
      exact sxh_appendT (α := Str) (rα := inferInstance) (f := "_dropped") 1 0 hK hcl n3 (by show ("_dropped" : Str) ∉ [("_limit" : Str), ("_kept" : Str)]; decide +kernel) rfl rfl rfl fun Wo hW => ev_var rfl ⟨by omega, fun v => ⟨fs2, kpB lim (ks.filter fun o => decide (o ≠ far)) q (us ++ [v]) (gone ++ [far]), rfl, rfl, rfl, fun oF nF wF => ev_var rfl (k2 (of_decide_eq_true h) _)⟩⟩
def P_Keeper_limit : PT := fun rt xx ts => ∃ (lim : Int) (ks : List Str) (gone : List Str), ts = [T (Kd.mk lim ks gone)] ∧ (rt (T lim))
theorem pc_Keeper_limit {rt : Ty → Prop} {xx : Xn → Prop} {lim : Int} {ks : List Str} {gone : List Str} (h : rt (T lim)) : P_Keeper_limit rt xx [T (Kd.mk lim ks gone)] := ⟨_, _, _, rfl, h⟩
theorem ok_Keeper_limit (tx : Txt K mg A) : FnR P w K mg base CX0 1 A.f_Keeper_limit (spG (bs K A) P_Keeper_limit) := by
  refine fnR_of tx.d_Keeper_limit sc_Keeper_limit (len_ok (n := 1) fun rt xx ts hp => by obtain ⟨_, _, _, rfl, _⟩ := hp; rfl) (fun cdv Ar outer s H vs Q E hr h => ⟨_, (pss_one (ps_ret (pe_fldK K (pv 0) rfl))),
      body_ok (N := ["self"]) (fun W ts rt xx hB ho hw hp => ?_) h⟩)
  have hK : W.B.K = K := congrArg Bs.K hB
  obtain ⟨lim, ks, gone, rfl, hp⟩ := hp
  show Sx W _ [some (T (Kd.mk lim ks gone))] _
  exact sx_ret (α := Int) (rα := inferInstance) (ev_klim hK (ev_var rfl hp))
def P_kset (K : PySem.W.Frag) (A : Ad) : PMx KB := fun c b0 k ts => ∃ (lim : Int) (ks : List Str) (q : Addr) (us : List V) (gone : List Str) (l : Int), c = .Keeper ∧ b0 = kpB lim ks q us gone ∧ ts = [T l] ∧ KpT (bs K A) ∧ 0 ≤ l ∧ k (kpB l ks q us gone) (T ())
def P_ksetX : PT := fun rt xx ts => ∃ (lim : Int) (ks gone : List Str) (l : Int), ts = [T (Kd.mk lim ks gone), T l] ∧ l < 0 ∧ Small l ∧ xx ⟨.BadLimit, [("number", .i l)]⟩
def spKset (K : PySem.W.Frag) (A : Ad) : Sp := fun vs H Q E => spG (bs K A) P_ksetX vs H Q E ∨ spMx kpC (bs K A) (P_kset K A) vs H Q E
theorem ok_Keeper_limit__set (tx : Txt K mg A) : FnR P w K mg base (L2.CX P w) 4 A.f_Keeper_limit__set (spKset K A) := by
  have G_m_refuse_limit := ok_m_refuse_limit (P := P) (w := w) (base := base) tx
  refine fnRX_of tx.d_Keeper_limit__set sc_Keeper_limit__set (fun vs H Q E h => ?_) (fun cdv Ar outer s H vs Q E hr h => ?_)
  · rcases h with h | h
    · obtain ⟨W, ts, rt, xx, _, _, d, ⟨lim, ks, gone, l, rfl, _⟩, _⟩ := h
      exact d.length
    · obtain ⟨W, F, M, p, dx, c, fs0, b0, ws, ts, k, oF, nF, rfl, _, _, _, _, _, _, d, ⟨lim, ks, q, us, gone, l, _, _, rfl, _⟩, _⟩ := h
      have := d.length
      exact congrArg (· + 1) this
  · refine ⟨_, (pss_cons (ps_expr (pe_callZ (E := WE (fun cls d _ H => E cls d H)) G_m_refuse_limit (room hr) rfl (tx.g_m_refuse_limit).g (tx.g_m_refuse_limit).kp (passAt (takes_of rfl rfl rfl rfl)) (pa_cons (pv 1) pa_nil)))
        (pss_one (ps_fldK K (pv 0) (pv 1) rfl))), ?_⟩
    try dsimp only [cxOf, Cx.nox]
    rcases h with h | h
    · refine body_ok (N := ["self", "limit"]) (fun W ts rt xx hB ho hw hp => ?_) h
      have hK : W.B.K = K := congrArg Bs.K hB
      obtain ⟨lim, ks, gone, l, rfl, hneg, sn, hx⟩ := hp
      show Sx W _ [some (T (Kd.mk lim ks gone)), some (T l)] _
      exact sx_seq (sx_drop (α := Unit) (rα := inferInstance) (ev_callZ hB (hx_of hw) (ea_cons (ev_var rfl (ea_nil (pc_m_refuse_limit ⟨fun h0 => absurd h0 (Int.not_le.mpr hneg), fun _ => ⟨sn, hx⟩⟩))))))
    · refine mx_ok0 (N := ["self", "limit"]) (fun W F M p dx c fs0 b0 ts k hB hp => ?_) h
      have hK : W.B.K = K := congrArg Bs.K hB
      obtain ⟨lim, ks, q, us, gone, l, rfl, rfl, rfl, hT, h0, hk⟩ := hp
      have hT' : KpT W.B := by rw [hB]; exact hT
      have hcl : L2.Cls K (W.B.cl .Keeper) := hK ▸ hT'.cl
      have n1 : NoAttr K (W.B.cl .Keeper) "_limit" := hK ▸ hT'.nl
      show SxH W F _ ((q, .lst us) :: (p, .ins (W.B.cl .Keeper) dx fs0) :: M) [some (T (Oi.mk p .Keeper dx fs0 (kpB lim ks q us gone))), some (T l)] _
      refine sxh_seq (sxh_pure fun Wo hW => sx_drop (α := Unit) (rα := inferInstance) (ev_callZ (hW.B.trans hB) (x := fun _ => False) (fun _ _ _ _ _ _ _ _ z => z.elim) (ea_cons (ev_var rfl (ea_nil (pc_m_refuse_limit ⟨fun _ => ⟨(), rfl, ?_⟩, fun h => absurd h0 (Int.not_le.mpr h)⟩))))))
      exact sxh_setf (α := Int) (rα := inferInstance) (f := "_limit") 1 (fun l' => kpB l' ks q us gone) hK hcl n1 rfl rfl (by show 3 < 1000; decide) (fun W' H v a d z => by
        have d : v = .int a := d
        subst d
        exact kp_putL z) fun Wo hW => ev_var rfl fun fs' => ⟨fs', kpB l ks q us gone, rfl, rfl, rfl, hk⟩
theorem ok_Keeper_change (tx : Txt K mg A) : FnR P w K mg base (L2.CX P w) 7 A.f_Keeper_change (spKset K A) := by
  have G_Keeper_limit__set := ok_Keeper_limit__set (P := P) (w := w) (base := base) tx
  refine fnRX_of tx.d_Keeper_change sc_Keeper_change (fun vs H Q E h => ?_) (fun cdv Ar outer s H vs Q E hr h => ?_)
  · rcases h with h | h
    · obtain ⟨W, ts, rt, xx, _, _, d, ⟨lim, ks, gone, l, rfl, _⟩, _⟩ := h
      exact d.length
    · obtain ⟨W, F, M, p, dx, c, fs0, b0, ws, ts, k, oF, nF, rfl, _, _, _, _, _, _, d, ⟨lim, ks, q, us, gone, l, _, _, rfl, _⟩, _⟩ := h
      have := d.length
      exact congrArg (· + 1) this
  · refine ⟨_, (pss_one (ps_setprop (E := WE (fun cls d _ H => E cls d H)) (pv 0) (pv 1) (tx.cl_Keeper) (tx.ps_Keeper_limit) G_Keeper_limit__set (room hr) (passAt (takes_of rfl rfl rfl rfl)))), ?_⟩
    try dsimp only [cxOf, Cx.nox]
    rcases h with h | h
    · refine body_ok (N := ["self", "limit"]) (fun W ts rt xx hB ho hw hp => ?_) h
      have hK : W.B.K = K := congrArg Bs.K hB
      obtain ⟨lim, ks, gone, l, rfl, hneg, sn, hx⟩ := hp
      show Sx W _ [some (T (Kd.mk lim ks gone)), some (T l)] _
      exact sx_psetX (α := Int) (rα := inferInstance) (P := P_ksetX) (fun _ _ _ _ h => .inl h) hB rfl (hx_of hw) (ev_var rfl (ev_var rfl ⟨lim, ks, gone, l, rfl, hneg, sn, hx⟩))
    · refine mx_ok0 (N := ["self", "limit"]) (fun W F M p dx c fs0 b0 ts k hB hp => ?_) h
      have hK : W.B.K = K := congrArg Bs.K hB
      obtain ⟨lim, ks, q, us, gone, l, rfl, rfl, rfl, hT, h0, hk⟩ := hp
      show SxH W F _ ((q, .lst us) :: (p, .ins (W.B.cl .Keeper) dx fs0) :: M) [some (T (Oi.mk p .Keeper dx fs0 (kpB lim ks q us gone))), some (T l)] _
      exact sxh_pset (α := Int) (rα := inferInstance) (P := P_kset K A) (M := M) (fun _ _ _ _ h => .inr h) rfl rfl hB rfl fun Wo hW => ev_var rfl ⟨lim, ks, q, us, gone, l, rfl, rfl, rfl, hT, h0, fun fs => ⟨fs, kpB l ks q us gone, rfl, rfl, rfl, hk⟩⟩
def P_spot : PT := fun rt xx ts => ts = [T Bx.mk] ∧ (∀ k : Int, rt (T k))
theorem pc_spot {rt : Ty → Prop} {xx : Xn → Prop}  (h : ∀ k : Int, rt (T k)) : P_spot rt xx [T Bx.mk] := ⟨rfl, h⟩
theorem ok_spot (tx : Txt K mg A) : FnR P w K mg base CX0 2 A.f_spot (spG (bs K A) P_spot) := by
  have G_take := ok_take (P := P) (w := w) (base := base) tx
  refine fnR_of tx.g_spot.d sc_spot (len_ok (n := 1) fun rt xx ts hp => by obtain ⟨rfl, _⟩ := hp; rfl) (fun cdv Ar outer s H vs Q E hr h => ⟨_, (pss_one (ps_ret (pe_op op_add (pe_ix (ix_listK K) (pe_lst (pa_cons pe_int (pa_cons pe_int (pa_cons (pe_un un_neg pe_int) (pa_cons (pe_op op_pow pe_int pe_int) (pa_cons (pe_un un_neg (pe_op op_pow pe_int pe_int)) pa_nil)))))) (pe_callR G_take (room hr) rfl (tx.g_take).g (tx.g_take).kp pass0 (pa_cons (pv 0) (pa_cons pe_int pa_nil))) (fun _ _ => rfl)) (pe_callR G_take (room hr) rfl (tx.g_take).g (tx.g_take).kp pass0 (pa_cons (pv 0) (pa_cons pe_int pa_nil)))))),
      body_ok (N := ["_law_box_here"]) (fun W ts rt xx hB ho hw hp => ?_) h⟩)
  have hK : W.B.K = K := congrArg Bs.K hB
  obtain ⟨rfl, hp⟩ := hp
  show Sx W _ [some (T Bx.mk)] _
  walk_at "g"
  refine pc_take ⟨by decide, by decide, fun k h0 h1 => ⟨_, rfl, ?_⟩⟩
  have : k = 0 ∨ k = 1 ∨ k = 2 ∨ k = 3 ∨ k = 4 := by omega
  rcases this with rfl | rfl | rfl | rfl | rfl <;> (refine ⟨_, rfl, ?_⟩; walk_at "g"; exact pc_take ⟨by decide, by decide, fun y _ _ => ⟨_, rfl, hp _⟩⟩)
def P_shown : PT := fun rt xx ts => ∃ (s : Spc) (p : Int), ts = [T Bx.mk, T s, T p] ∧ (SpcOk s ∧ ∀ k : Int, p - saF (gauS s) ≤ k → k ≤ p + sbF (gauS s) → rt (T k))
theorem pc_shown {rt : Ty → Prop} {xx : Xn → Prop} {s : Spc} {p : Int} (h : SpcOk s ∧ ∀ k : Int, p - saF (gauS s) ≤ k → k ≤ p + sbF (gauS s) → rt (T k)) : P_shown rt xx [T Bx.mk, T s, T p] := ⟨_, _, rfl, h⟩
theorem ok_shown (tx : Txt K mg A) : FnR P w K mg base CX0 2 A.f_shown (spG (bs K A) P_shown) := by
  have G_slacks := ok_slacks (P := P) (w := w) (base := base) tx
  have G_take := ok_take (P := P) (w := w) (base := base) tx
  refine fnR_of tx.g_shown.d sc_shown (len_ok (n := 3) fun rt xx ts hp => by obtain ⟨_, _, rfl, _⟩ := hp; rfl) (fun cdv Ar outer s H vs Q E hr h => ⟨_, (pss_cons (ps_set (i := 3) sc_shown.nd rfl (Or.inl rfl) (pe_callR G_slacks (room hr) rfl (tx.g_slacks).g (tx.g_slacks).kp pass0 (pa_cons (pv 1) pa_nil)))
        (pss_cons (ps_set (i := 4) sc_shown.nd rfl (Or.inl rfl) (pe_op op_add (pe_ix (ix_tupK K) (pv 3) pe_int (fun _ _ => rfl)) (pe_ix (ix_tupK K) (pv 3) pe_int (fun _ _ => rfl))))
        (pss_cons (ps_set (i := 5) sc_shown.nd rfl (Or.inl rfl) (pe_callR G_take (room hr) rfl (tx.g_take).g (tx.g_take).kp pass0 (pa_cons (pv 0) (pa_cons pe_int pa_nil))))
        (pss_one (ps_ret (pe_op op_add (pe_op op_sub (pv 2) (pe_ix (ix_tupK K) (pv 3) pe_int (fun _ _ => rfl))) (pe_op op_fdiv (pe_op op_mul (pv 4) (pe_ix (ix_listK K) (pe_lst (pa_cons pe_int (pa_cons pe_int (pa_cons (pv 5) pa_nil)))) (pe_callR G_take (room hr) rfl (tx.g_take).g (tx.g_take).kp pass0 (pa_cons (pv 0) (pa_cons pe_int pa_nil))) (fun _ _ => rfl))) pe_int))))))),
      body_ok (N := ["_law_box_here", "_law_spec", "_law_spot_here", "_law_slacks_here", "_law_wide", "_law_part"]) (fun W ts rt xx hB ho hw hp => ?_) h⟩)
  have hK : W.B.K = K := congrArg Bs.K hB
  obtain ⟨s, p, rfl, hp⟩ := hp
  show Sx W _ [some (T Bx.mk), some (T s), some (T p), none, none, none] _
  obtain ⟨ok, hp⟩ := hp
  have hla := ok.la
  have e1 := sl_sb ok
  have e2 := sl_sa ok
  obtain ⟨g1, g2⟩ := gau_ge ok
  walk_at "g"
  refine pc_slacks ⟨hla.1, by omega, _, rfl, ?_⟩
  rw [e2, e1]
  walk_at "g"
  refine pc_take ⟨by decide, by decide, fun q q0 q1 => ⟨_, rfl, ?_⟩⟩
  walk_at "g"
  refine pc_take ⟨by decide, by decide, fun z z0 z1 => ⟨_, rfl, ?_⟩⟩
  have hw : ∃ w : Int, atI [0, 100, q] z = some w ∧ 0 ≤ w ∧ w ≤ 100 := by
    have : z = 0 ∨ z = 1 ∨ z = 2 := by omega
    rcases this with rfl | rfl | rfl
    · exact ⟨0, rfl, by omega, by omega⟩
    · exact ⟨100, rfl, by omega, by omega⟩
    · exact ⟨q, rfl, by omega, by omega⟩
  obtain ⟨w, hw, w0, w1⟩ := hw
  refine ⟨w, hw, ?_⟩
  walk_at "g"
  have m1 : 0 ≤ (sbF (gauS s) + saF (gauS s)) * w := Int.mul_nonneg (by omega) w0
  have m2 : (sbF (gauS s) + saF (gauS s)) * w ≤ (sbF (gauS s) + saF (gauS s)) * 100 := Int.mul_le_mul_of_nonneg_left w1 (by omega)
  have m3 : (sbF (gauS s) + saF (gauS s)) * w / 100 ≤ sbF (gauS s) + saF (gauS s) := by omega
  have m4 : 0 ≤ (sbF (gauS s) + saF (gauS s)) * w / 100 := by omega
  exact hp _ (by omega) (by omega)
def P_lie : PT := fun rt xx ts => ∃ (p : Int), ts = [T Bx.mk, T p] ∧ (∀ k : Int, rt (T k))
theorem pc_lie {rt : Ty → Prop} {xx : Xn → Prop} {p : Int} (h : ∀ k : Int, rt (T k)) : P_lie rt xx [T Bx.mk, T p] := ⟨_, rfl, h⟩
theorem ok_lie (tx : Txt K mg A) : FnR P w K mg base CX0 2 A.f_lie (spG (bs K A) P_lie) := by
  have G_take := ok_take (P := P) (w := w) (base := base) tx
  refine fnR_of tx.g_lie.d sc_lie (len_ok (n := 2) fun rt xx ts hp => by obtain ⟨_, rfl, _⟩ := hp; rfl) (fun cdv Ar outer s H vs Q E hr h => ⟨_, (pss_cons (ps_set (i := 2) sc_lie.nd rfl (Or.inl rfl) (pe_ix (ix_listK K) (pe_lst (pa_cons pe_int (pa_cons pe_int (pa_cons pe_int (pa_cons (pe_op op_pow pe_int pe_int) pa_nil))))) (pe_callR G_take (room hr) rfl (tx.g_take).g (tx.g_take).kp pass0 (pa_cons (pv 0) (pa_cons pe_int pa_nil))) (fun _ _ => rfl)))
        (pss_one (ps_ret (pe_op op_add (pv 1) (pe_op op_fdiv (pe_op op_mul (pv 2) (pe_op op_sub (pe_callR G_take (room hr) rfl (tx.g_take).g (tx.g_take).kp pass0 (pa_cons (pv 0) (pa_cons pe_int pa_nil))) pe_int)) pe_int))))),
      body_ok (N := ["_law_box_here", "_law_spot_here", "_law_far"]) (fun W ts rt xx hB ho hw hp => ?_) h⟩)
  have hK : W.B.K = K := congrArg Bs.K hB
  obtain ⟨p, rfl, hp⟩ := hp
  show Sx W _ [some (T Bx.mk), some (T p), none] _
  walk_at "g"
  refine pc_take ⟨by decide, by decide, fun k h0 h1 => ⟨_, rfl, ?_⟩⟩
  have hw : ∃ w : Int, atI [3, 40, 2000, 1000000000] k = some w ∧ 0 ≤ w ∧ w ≤ 1000000000 := by
    have : k = 0 ∨ k = 1 ∨ k = 2 ∨ k = 3 := by omega
    rcases this with rfl | rfl | rfl | rfl
    · exact ⟨3, rfl, by omega, by omega⟩
    · exact ⟨40, rfl, by omega, by omega⟩
    · exact ⟨2000, rfl, by omega, by omega⟩
    · exact ⟨1000000000, rfl, by omega, by omega⟩
  obtain ⟨w, hw, w0, w1⟩ := hw
  refine ⟨w, hw, ?_⟩
  walk_at "g"
  refine pc_take ⟨by decide, by decide, fun y y0 y1 => ⟨_, rfl, ?_⟩⟩
  walk_at "g"
  exact hp _
def P_farthest : PT := fun rt xx ts => ∃ (ns : List Str) (ds : List (Str × Int)), ts = [T ns, T (Dc.mk ds)] ∧ (0 < ns.length ∧ ns.length ≤ 1000 ∧ (∀ n ∈ ns, (getDc ds n).isSome = true) ∧ ∀ med most far, FarR ns ds med most far → rt (T (T3.mk far most med)))
theorem pc_farthest {rt : Ty → Prop} {xx : Xn → Prop} {ns : List Str} {ds : List (Str × Int)} (h : 0 < ns.length ∧ ns.length ≤ 1000 ∧ (∀ n ∈ ns, (getDc ds n).isSome = true) ∧ ∀ med most far, FarR ns ds med most far → rt (T (T3.mk far most med))) : P_farthest rt xx [T ns, T (Dc.mk ds)] := ⟨_, _, rfl, h⟩
theorem ok_farthest (tx : Txt K mg A) : FnR P w K mg base CX0 1 A.f_farthest (spG (bs K A) P_farthest) := by
  refine fnR_of tx.g_farthest.d sc_farthest (len_ok (n := 2) fun rt xx ts hp => by obtain ⟨_, _, rfl, _⟩ := hp; rfl) (fun cdv Ar outer s H vs Q E hr h => ⟨_, (pss_cons (ps_set (i := 2) sc_farthest.nd rfl (Or.inl rfl) (pe_ix (ix_listK K) (pe_callB cr_sortedI (by rfl) tx.z_sorted (by decide +kernel) (pa_cons (pe_lc (own := [("_law_word_here", 3)]) rfl sc_farthest.nd (pi_listK K (pv 0)) (blkOk_by (N := ["_law_kept", "_law_readings", "_law_middle", "_law_word_here", "_law_best"]) (sc := defScope s_farthest) (by decide +kernel)) (fun _ _ _ _ _ => (pg_name (i := 3) sc_farthest.nd rfl (Or.inl rfl))) (fun _ _ _ _ _ => pts_nil) (fun _ _ _ _ _ => (pe_dget (huX hr) (pv 1) (pv 3) (fun _ _ => rfl)))) pa_nil)) (pe_op op_fdiv (pe_op op_sub (pe_callB (call_lenK K) (by rfl) tx.z_len PySem.boot_len (pa_cons (pv 0) pa_nil)) pe_int) pe_int) (fun _ _ => rfl)))
        (pss_cons (ps_set (i := 4) sc_farthest.nd rfl (Or.inl rfl) (pe_ix (ix_listK K) (pv 0) pe_int (fun _ _ => rfl)))
        (pss_cons (ps_for PassesOwn.never rfl (pi_listK K (pv 0)) (pg_name (i := 3) sc_farthest.nd rfl (Or.inl rfl)) (pss_one (ps_if (pt_cmpR op_gt (pe_callB call_abs (by rfl) tx.z_abs (by decide +kernel) (pa_cons (pe_op op_sub (pe_dget (huX hr) (pv 1) (pv 3) (fun _ _ => rfl)) (pv 2)) pa_nil)) (pe_callB call_abs (by rfl) tx.z_abs (by decide +kernel) (pa_cons (pe_op op_sub (pe_dget (huX hr) (pv 1) (pv 4) (fun _ _ => rfl)) (pv 2)) pa_nil)) (nomark _)) (pss_one (ps_set (i := 4) sc_farthest.nd rfl (Or.inl rfl) (pv 3))) pss_nil)))
        (pss_one (ps_ret (pe_tup (pa_cons (pv 4) (pa_cons (pe_callB call_abs (by rfl) tx.z_abs (by decide +kernel) (pa_cons (pe_op op_sub (pe_dget (huX hr) (pv 1) (pv 4) (fun _ _ => rfl)) (pv 2)) pa_nil)) (pa_cons (pv 2) pa_nil))))))))),
      body_ok (N := ["_law_kept", "_law_readings", "_law_middle", "_law_word_here", "_law_best"]) (fun W ts rt xx hB ho hw hp => ?_) h⟩)
  have hK : W.B.K = K := congrArg Bs.K hB
  obtain ⟨ns, ds, rfl, hp⟩ := hp
  show Sx W _ [some (T ns), some (T (Dc.mk ds)), none, none, none] _
  obtain ⟨h0, hl, hd, hp⟩ := hp
  have hget : ∀ n ∈ ns, getDc ds n = some (rdF ds n) := fun n hn => by
    obtain ⟨b, hb⟩ := Option.isSome_iff_exists.mp (hd n hn)
    unfold rdF
    rw [hb]
    rfl
  refine sx_seq (sx_set (α := Int) (rα := inferInstance) (ev_ixL (α := Int) (rα := inferInstance) hK (ev_sortedI hK (ev_lcF (α := Str) (β := Int) (fun _ => true) (rdF ds) hK (ev_var rfl ⟨by omega, fun W' sb n hn => ⟨[3], rfl, tj_name (et_yes ⟨fun _ => ev_dget (ev_var rfl (ev_var rfl ⟨_, hget n hn, rfl, rfl⟩)), fun h => (nomatch h)⟩)⟩, fun bs hpm hpw => ?_⟩)))))
  rw [filtT] at hpm
  have hbl : bs.length = ns.length := by rw [hpm.length_eq, List.length_map]
  have hmi : (ns.length - 1) / 2 < bs.length := by omega
  walk_at "g"
  refine ⟨bs[(ns.length - 1) / 2], ?_, ?_⟩
  · have e : ((ns.length : Int) - 1) / 2 = (((ns.length - 1) / 2 : Nat) : Int) := by omega
    rw [show (((ns.length : Int) - 1) / 2) = (((ns.length - 1) / 2 : Nat) : Int) from e]
    exact atI_nat (List.getElem?_eq_getElem hmi)
  generalize hmed : bs[(ns.length - 1) / 2] = med
  have hbm : bs[(ns.length - 1) / 2]? = some med := by rw [List.getElem?_eq_getElem hmi, hmed]
  obtain ⟨n0, hn0⟩ : ∃ n0, ns[0]? = some n0 := ⟨ns[0], List.getElem?_eq_getElem h0⟩
  show Sx W _ [some (T ns), some (T (Dc.mk ds)), some (T med), none, none] _
  refine sx_seq (sx_set (α := Str) (rα := inferInstance) (ev_ixL (α := Str) (rα := inferInstance) hK (ev_var rfl (ev_int ⟨n0, atI_nat (j := 0) hn0, ?_⟩))))
  show Sx W _ [some (T ns), some (T (Dc.mk ds)), some (T med), none, some (T n0)] _
  refine sx_seq (sx_forL (α := Str) (rα := inferInstance) hK (ev_var rfl ⟨fun i Γ' => ∃ (b : Str) (j : Nat) (o3 : Option G.Ty), ns[j]? = some b ∧ (∀ k, k < i → ∀ m, ns[k]? = some m → (rdF ds m - med).natAbs ≤ (rdF ds b - med).natAbs) ∧ (∀ k, k < j → ∀ m, ns[k]? = some m → (rdF ds m - med).natAbs < (rdF ds b - med).natAbs) ∧ Γ' = [some (T ns), some (T (Dc.mk ds)), some (T med), o3, some (T b)], ⟨n0, 0, none, hn0, fun k hk => absurd hk (Nat.not_lt_zero _), fun k hk => absurd hk (Nat.not_lt_zero _), rfl⟩, ?_, ?_⟩))
  · rintro i w Γ' hw ⟨b, j, o3, hj, hub, hfs, rfl⟩
    have hwm := List.mem_of_getElem? hw
    have hbm2 := List.mem_of_getElem? hj
    refine tg_name ?_
    show Sx W _ [some (T ns), some (T (Dc.mk ds)), some (T med), some (T w), some (T b)] _
    refine sx_if (et_test (ev_opB (ev_abs (ev_opI (ev_dget (ev_var rfl (ev_var rfl ⟨_, hget w hwm, ev_var rfl (ev_abs (ev_opI (ev_dget (ev_var rfl (ev_var rfl ⟨_, hget b hbm2, ev_var rfl ⟨fun h => ?_, fun h => sx_next ?_⟩⟩)))))⟩)))))))
    · have h : ((rdF ds w - med).natAbs : Int) > ((rdF ds b - med).natAbs : Int) := of_decide_eq_true h
      refine sx_set (α := Str) (rα := inferInstance) (ev_var rfl ⟨w, i, _, hw, fun k hk m hm => ?_, fun k hk m hm => ?_, rfl⟩)
      · rcases Nat.lt_or_eq_of_le (Nat.le_of_lt_succ hk) with hk | rfl
        · have := hub k hk m hm
          omega
        · rw [hw] at hm
          rw [Option.some.inj hm]
          exact Nat.le_refl _
      · have := hub k hk m hm
        omega
    · have h : ¬ ((rdF ds w - med).natAbs : Int) > ((rdF ds b - med).natAbs : Int) := of_decide_eq_false h
      refine ⟨b, j, _, hj, fun k hk m hm => ?_, hfs, rfl⟩
      rcases Nat.lt_or_eq_of_le (Nat.le_of_lt_succ hk) with hk | rfl
      · exact hub k hk m hm
      · rw [hw] at hm
        rw [← Option.some.inj hm]
        omega
  rintro Γ' ⟨b, j, o3, hj, hub, hfs, rfl⟩
  have hbm2 := List.mem_of_getElem? hj
  refine sx_ret (α := T3 Str Int Int) (rα := inferInstance) (ev_tup3 (ev_var rfl (ev_abs (ev_opI (ev_dget (ev_var rfl (ev_var rfl ⟨_, hget b hbm2, ev_var rfl (ev_var rfl (hp med _ b ⟨⟨bs, hpm, hpw, hbm⟩, hbm2, rfl, fun m hm => ?_, ?_⟩))⟩)))))))
  · obtain ⟨k, hk⟩ := List.getElem?_of_mem hm
    have := hub k (List.getElem?_eq_some_iff.mp hk).1 m hk
    omega
  · rw [idx_eq (i := j) (by rw [List.getElem?_map, hj]; rfl) fun k hk z => ?_]
    · exact hj
    · rw [List.getElem?_map] at z
      cases q : ns[k]? with
      | none => rw [q] at z; cases z
      | some m =>
        rw [q] at z
        have z : ((rdF ds m - med).natAbs : Int) = ((rdF ds b - med).natAbs : Int) := Option.some.inj z
        have := hfs k hk m q
        omega
theorem getDc_nil {β : Type} (j : Str) : getDc ([] : List (Str × β)) j = none := rfl
theorem getDc_cons {β : Type} (a : Str) (b : β) (r : List (Str × β)) (j : Str) : getDc ((a, b) :: r) j = if a = j then some b else getDc r j := by
  unfold getDc
  by_cases e : a = j
  · rw [if_pos e, List.find?_cons_of_pos (by exact decide_eq_true e)]
    rfl
  · rw [if_neg e, List.find?_cons_of_neg (by rw [decide_eq_true_iff]; exact e)]
theorem getDc_map {β : Type} (k : Str) (b : β) (j : Str) : ∀ l : List (Str × β), getDc (l.map fun e => if e.1 = k then (e.1, b) else e) j = if j = k then (getDc l k).map (fun _ => b) else getDc l j
  | [] => by
    show none = if j = k then (none : Option β).map (fun _ => b) else none
    split <;> rfl
  | (a, c) :: r => by
    have ih := getDc_map k b j r
    rw [List.map_cons, getDc_cons, getDc_cons]
    by_cases e1 : a = k
    · subst e1
      rw [if_pos rfl, getDc_cons, ih]
      by_cases e2 : a = j
      · subst e2
        simp
      · rw [if_neg e2, if_neg (fun z => e2 z.symm), if_neg (fun z => e2 z.symm)]
        rw [if_neg e2]
    · rw [if_neg e1, getDc_cons, ih]
      by_cases e2 : a = j
      · subst e2
        rw [if_pos rfl, if_neg e1, if_pos rfl]
      · rw [if_neg e2, if_neg e2]
        by_cases e3 : j = k
        · subst e3
          rw [if_pos rfl, if_pos rfl, if_neg e1]
        · rw [if_neg e3, if_neg e3]
theorem getDc_snoc {β : Type} (k : Str) (b : β) (j : Str) : ∀ l : List (Str × β), getDc l k = none → getDc (l ++ [(k, b)]) j = if j = k then some b else getDc l j
  | [], _ => by
    rw [List.nil_append, getDc_cons, getDc_nil]
    by_cases e : k = j
    · rw [if_pos e, if_pos e.symm]
    · rw [if_neg e, if_neg (fun z => e z.symm)]
  | (a, c) :: r, h => by
    rw [getDc_cons] at h
    have e1 : ¬ a = k := fun z => by rw [if_pos z] at h; cases h
    rw [if_neg e1] at h
    rw [List.cons_append, getDc_cons, getDc_cons, getDc_snoc k b j r h]
    by_cases e2 : a = j
    · subst e2
      rw [if_pos rfl, if_neg e1, if_pos rfl]
    · rw [if_neg e2, if_neg e2]
theorem getDc_any {β : Type} (k : Str) : ∀ l : List (Str × β), (l.any fun e => decide (e.1 = k)) = (getDc l k).isSome
  | [] => rfl
  | (a, c) :: r => by
    rw [List.any_cons, getDc_cons, getDc_any k r]
    by_cases e : a = k
    · rw [if_pos e, decide_eq_true e]; rfl
    · rw [if_neg e, decide_eq_false e, Bool.false_or]
theorem getDc_put {β : Type} (l : List (Str × β)) (k j : Str) (b : β) : getDc (putDc l k b) j = if j = k then some b else getDc l j := by
  unfold putDc
  rw [getDc_any]
  cases e : getDc l k with
  | none =>
    show getDc (l ++ [(k, b)]) j = _
    exact getDc_snoc k b j l e
  | some c =>
    show getDc (l.map fun e => if e.1 = k then (e.1, b) else e) j = _
    rw [getDc_map, e]
    rfl
theorem putDc_len {β : Type} (l : List (Str × β)) (k : Str) (b : β) : (putDc l k b).length ≤ l.length + 1 := by
  unfold putDc
  split
  · rw [List.length_map]; omega
  · rw [List.length_append]; exact Nat.le_refl _
/-- a dict that is filled, name by name, each name put once or twice -/
structure FilK (Q : Str → Int → Prop) (ws : List Str) (i : Nat) (d : List (Str × Int)) : Prop where
  len : d.length ≤ 2 * i
  has : ∀ w, w ∈ ws.take i → (getDc d w).isSome = true
  val : ∀ w x, getDc d w = some x → Q w x
theorem filk_nil {Q : Str → Int → Prop} {ws : List Str} : FilK Q ws 0 [] := ⟨Nat.zero_le _, fun w h => (nomatch h), fun w x h => (nomatch h)⟩
theorem filk_put {Q : Str → Int → Prop} {ws : List Str} {i : Nat} {d : List (Str × Int)} {a : Str} {b : Int} (ha : ws[i]? = some a) (h : FilK Q ws i d) (q : Q a b) : FilK Q ws (i + 1) (putDc d a b) := by
  refine ⟨?_, fun w hw => ?_, fun w x hx => ?_⟩
  · have := putDc_len d a b
    have := h.len
    omega
  · rw [getDc_put]
    by_cases e : w = a
    · rw [if_pos e]
      rfl
    · rw [if_neg e]
      rw [List.take_succ, ha] at hw
      exact h.has w ((List.mem_append.mp hw).resolve_right fun z => e (List.mem_singleton.mp z))
  · rw [getDc_put] at hx
    by_cases e : w = a
    · rw [if_pos e] at hx
      cases hx
      exact e ▸ q
    · rw [if_neg e] at hx
      exact h.val w x hx
theorem filk_put2 {Q : Str → Int → Prop} {ws : List Str} {i : Nat} {d : List (Str × Int)} {a : Str} {b c : Int} (ha : ws[i]? = some a) (h : FilK Q ws i d) (q : Q a c) : FilK Q ws (i + 1) (putDc (putDc d a b) a c) := by
  refine ⟨?_, fun w hw => ?_, fun w x hx => ?_⟩
  · have := putDc_len d a b
    have := putDc_len (putDc d a b) a c
    have := h.len
    omega
  · rw [getDc_put, getDc_put]
    by_cases e : w = a
    · rw [if_pos e]
      rfl
    · rw [if_neg e, if_neg e]
      rw [List.take_succ, ha] at hw
      exact h.has w ((List.mem_append.mp hw).resolve_right fun z => e (List.mem_singleton.mp z))
  · rw [getDc_put, getDc_put] at hx
    by_cases e : w = a
    · rw [if_pos e] at hx
      cases hx
      exact e ▸ q
    · rw [if_neg e, if_neg e] at hx
      exact h.val w x hx
/-- honest readings at p of all gauges outside of the lot -/
def QK (ss : List Spc) (lot : List Str) (p : Int) (w : Str) (x : Int) : Prop := w ∉ lot → ∀ s ∈ ss, s.nm = w → p - saF (gauS s) ≤ x ∧ x ≤ p + sbF (gauS s)
def TkZ (ss : List Spc) (lot : List Str) (p : Int) (ds : List (Str × Int)) : Prop := ∀ s ∈ ss, (getDc ds s.nm).isSome = true ∧ (s.nm ∉ lot → p - saF (gauS s) ≤ rdF ds s.nm ∧ rdF ds s.nm ≤ p + sbF (gauS s))
theorem qk_of {ss : List Spc} {lot : List Str} {p x : Int} {s : Spc} (nd : (ss.map (·.nm)).Nodup) (hs : s ∈ ss) (h : p - saF (gauS s) ≤ x ∧ x ≤ p + sbF (gauS s)) : QK ss lot p s.nm x := fun _ s2 hs2 e => by
  obtain ⟨i, hi⟩ := List.getElem?_of_mem hs
  obtain ⟨j, hj⟩ := List.getElem?_of_mem hs2
  obtain ⟨hi1, hi2⟩ := List.getElem?_eq_some_iff.mp hi
  obtain ⟨hj1, hj2⟩ := List.getElem?_eq_some_iff.mp hj
  have hne : ∀ a b : Nat, a < b → ∀ s s2 : Spc, ss[a]? = some s → ss[b]? = some s2 → s.nm ≠ s2.nm := fun a b hab s s2 h1 h2 => by
    obtain ⟨h1, e1⟩ := List.getElem?_eq_some_iff.mp h1
    obtain ⟨h2, e2⟩ := List.getElem?_eq_some_iff.mp h2
    have := List.pairwise_iff_getElem.mp nd a b (by rw [List.length_map]; exact h1) (by rw [List.length_map]; exact h2) hab
    rwa [List.getElem_map, List.getElem_map, e1, e2] at this
  have : i = j := by
    rcases Nat.lt_trichotomy i j with z | z | z
    · exact absurd e.symm (hne i j z s s2 hi hj)
    · exact z
    · exact absurd e (hne j i z s2 s hj hi)
  subst this
  rw [hi] at hj
  rw [← Option.some.inj hj]
  exact h
theorem tkz_of {ss : List Spc} {lot : List Str} {p : Int} {ds : List (Str × Int)} (h : FilK (QK ss lot p) (ss.map (·.nm)) ss.length ds) : TkZ ss lot p ds := fun s hs => by
  have h1 := h.has s.nm (by rw [List.take_of_length_le (by rw [List.length_map]; exact Nat.le_refl _)]; exact List.mem_map.mpr ⟨s, hs, rfl⟩)
  obtain ⟨x, hx⟩ := Option.isSome_iff_exists.mp h1
  refine ⟨h1, fun hl => ?_⟩
  have := h.val _ x hx hl s hs rfl
  unfold rdF
  rw [hx]
  exact this
def P_tick : PFd Int := fun k ts => ∃ (ss : List Spc) (lot : List Str) (p : Int), ts = [T Bx.mk, T ss, T lot, T p] ∧ (∀ s ∈ ss, SpcOk s) ∧ (ss.map (·.nm)).Nodup ∧ ss.length ≤ 100 ∧ lot.length ≤ 100 ∧ ∀ ds : List (Str × Int), (∀ s ∈ ss, (getDc ds s.nm).isSome = true) → (ds.map (·.1)).Nodup → (∀ w ∈ ds.map (·.1), w ∈ ss.map (·.nm)) → ds.length ≤ 2 * ss.length → k ds
theorem pc_tick {k : List (Str × Int) → Prop} {ss : List Spc} {lot : List Str} {p : Int} (h : (∀ s ∈ ss, SpcOk s) ∧ (ss.map (·.nm)).Nodup ∧ ss.length ≤ 100 ∧ lot.length ≤ 100 ∧ ∀ ds : List (Str × Int), (∀ s ∈ ss, (getDc ds s.nm).isSome = true) → (ds.map (·.1)).Nodup → (∀ w ∈ ds.map (·.1), w ∈ ss.map (·.nm)) → ds.length ≤ 2 * ss.length → k ds) : P_tick k [T Bx.mk, T ss, T lot, T p] := ⟨_, _, _, rfl, h⟩
theorem putDc_sub {l : List (Str × Int)} {k : Str} {b : Int} {ws : List Str} (h : ∀ w ∈ l.map (·.1), w ∈ ws) (hk : k ∈ ws) : ∀ w ∈ (putDc l k b).map (·.1), w ∈ ws := fun w hw => by
  by_cases e : k ∈ l.map (·.1)
  · rw [putDc_keys e] at hw
    exact h w hw
  · rw [putDc_new e, List.map_append] at hw
    rcases List.mem_append.mp hw with hw | hw
    · exact h w hw
    · have : w = k := by simpa using hw
      rw [this]
      exact hk
theorem ok_tick (tx : Txt K mg A) : FnR P w K mg base CX0 3 A.f_tick (spFd (bs K A) P_tick) := by
  have G_shown := ok_shown (P := P) (w := w) (base := base) tx
  have G_lie := ok_lie (P := P) (w := w) (base := base) tx
  have G_take := ok_take (P := P) (w := w) (base := base) tx
  refine fnR_of tx.g_tick.d sc_tick (fun vs H Q E h => ?_) (fun cdv Ar outer s H vs Q E hr h => ?_)
  · obtain ⟨W, ts, k, _, _, _, d, ⟨ss, lot, p, rfl, _⟩, _⟩ := h
    exact d.length
  · refine ⟨_, (pss_cons (ps_set (i := 4) sc_tick.nd rfl (Or.inl rfl) pe_dnewK)
        (pss_cons (ps_for PassesOwn.never rfl (pi_listK K (pv 1)) (pg_name (i := 5) sc_tick.nd rfl (Or.inl rfl)) (pss_cons (ps_set (i := 6) sc_tick.nd rfl (Or.inl rfl) (pe_callR G_shown (room hr) rfl (tx.g_shown).g (tx.g_shown).kp pass0 (pa_cons (pv 0) (pa_cons (pv 5) (pa_cons (pv 3) pa_nil)))))
        (pss_cons (ps_set (i := 7) sc_tick.nd rfl (Or.inl rfl) (pe_callR G_lie (room hr) rfl (tx.g_lie).g (tx.g_lie).kp pass0 (pa_cons (pv 0) (pa_cons (pv 3) pa_nil))))
        (pss_cons (ps_set (i := 8) sc_tick.nd rfl (Or.inl rfl) (pe_callR G_take (room hr) rfl (tx.g_take).g (tx.g_take).kp pass0 (pa_cons (pv 0) (pa_cons pe_int pa_nil))))
        (pss_cons (ps_dput (huX hr) (pv 4) (pe_ix (ix_tupK K) (pv 5) pe_int (fun _ _ => rfl)) (pv 6) (by rfl))
        (pss_one (ps_if (PW.pt (pw_and (pt_cmpR (op_inSeqK K) (pe_ix (ix_tupK K) (pv 5) pe_int (fun _ _ => rfl)) (pv 2) rfl) (pw_and1 (pt_cmpR op_gt (pv 8) pe_int (nomark _))))) (pss_one (ps_dput (huX hr) (pv 4) (pe_ix (ix_tupK K) (pv 5) pe_int (fun _ _ => rfl)) (pv 7) (by rfl))) pss_nil)))))))
        (pss_one (ps_ret (pv 4))))), ?_⟩
    try dsimp only [cxOf, Cx.nox]
    refine fd_ok (N := ["_law_box_here", "_law_specs_here", "_law_lot", "_law_spot_here", "_law_readings", "_law_spec", "_law_dial", "_law_lie_here", "_law_turned"]) (fun W ts k F hB hp => ?_) h
    have hK : W.B.K = K := congrArg Bs.K hB
    obtain ⟨ss, lot, p, rfl, hso, hnd, hsl, hll, hp⟩ := hp
    show SxH W F _ [] [some (T Bx.mk), some (T ss), some (T lot), some (T p), none, none, none, none, none] _
    refine sxh_seq (sxh_newD (rβ := inferInstance) Int fun d => ?_)
    show SxH W F _ [(d, .dK [])] [some (T Bx.mk), some (T ss), some (T lot), some (T p), some (T (Od.mk d [] ([] : List (Str × Int)))), none, none, none, none] _
    refine sxh_seq (sxh_forL (α := Spc) (rα := inferInstance) hK fun Wo hW => ev_var rfl ?_)
    refine ⟨fun i L' Γ' => ∃ (kvs : List (Key × V)) (ds : List (Str × Int)) (o5 o6 o7 o8 : Option G.Ty), FilK (QK ss lot p) (ss.map (·.nm)) i ds ∧ (ds.map (·.1)).Nodup ∧ (∀ w ∈ ds.map (·.1), w ∈ ss.map (·.nm)) ∧ L' = [(d, .dK kvs)] ∧ Γ' = [some (T Bx.mk), some (T ss), some (T lot), some (T p), some (T (Od.mk d kvs ds)), o5, o6, o7, o8], ⟨[], [], none, none, none, none, filk_nil, .nil, fun w hw => (nomatch hw), rfl, rfl⟩, fun i L' Γ' ⟨_, _, _, _, _, _, _, _, _, h, _⟩ => by rw [h]; rfl, ?_, ?_⟩
    · rintro i s L' Γ' hs ⟨kvs, ds, o5, o6, o7, o8, hf, hfn, hfs, rfl, rfl⟩ Wo' hW'
      have hsm := List.mem_of_getElem? hs
      have hi := (List.getElem?_eq_some_iff.mp hs).1
      have hsn : (ss.map (·.nm))[i]? = some s.nm := by rw [List.getElem?_map, hs]; rfl
      have hfl := hf.len
      refine tg_name ?_
      show SxH W F _ [(d, .dK kvs)] [some (T Bx.mk), some (T ss), some (T lot), some (T p), some (T (Od.mk d kvs ds)), some (T s), o6, o7, o8] _
      refine sxh_seq (sxh_pure fun Wz hWz => sx_set (α := Int) (rα := inferInstance) (ev_callR (hWz.B.trans hB) (ea_cons (ev_var rfl (ea_cons (ev_var rfl (ea_cons (ev_var rfl (ea_nil (pc_shown ⟨hso s hsm, fun x x1 x2 => ⟨_, rfl, ?_⟩⟩))))))))))
      refine sxh_seq (sxh_pure fun Wz hWz => sx_set (α := Int) (rα := inferInstance) (ev_callR (hWz.B.trans hB) (ea_cons (ev_var rfl (ea_cons (ev_var rfl (ea_nil (pc_lie fun y => ⟨_, rfl, ?_⟩))))))))
      refine sxh_seq (sxh_pure fun Wz hWz => sx_set (α := Int) (rα := inferInstance) (ev_callR (hWz.B.trans hB) (ea_cons (ev_var rfl (ea_cons (ev_int (ea_nil (pc_take ⟨by decide, by decide, fun z z0 z1 => ⟨_, rfl, ?_⟩⟩))))))))
      show SxH W F _ [(d, .dK kvs)] [some (T Bx.mk), some (T ss), some (T lot), some (T p), some (T (Od.mk d kvs ds)), some (T s), some (T x), some (T y), some (T z)] _
      refine sxh_seq (sxh_dput (β := Int) (rβ := inferInstance) 0 rfl rfl fun W2 hW2 => ev_var rfl (ev_ixSp0 (congrArg Bs.K (hW2.B.trans hB)) (ev_var rfl ⟨by omega, fun kv2 => ?_⟩)))
      show SxH W F _ [(d, .dK kv2)] [some (T Bx.mk), some (T ss), some (T lot), some (T p), some (T (Od.mk d kv2 (putDc ds s.nm x))), some (T s), some (T x), some (T y), some (T z)] _
      have hplen := putDc_len ds s.nm x
      refine sxh_if fun W3 hW3 => et_and (et_test (ev_inS (congrArg Bs.K (hW3.B.trans hB)) (ev_ixSp0 (congrArg Bs.K (hW3.B.trans hB)) (ev_var rfl (ev_var rfl ⟨fun h => et_test (ev_opB (ev_var rfl (ev_int ⟨fun h2 => ?_, fun h2 => sxh_next ⟨_, _, _, _, _, _, filk_put hsn hf (qk_of hnd hsm ⟨x1, x2⟩), putDc_nd hfn, putDc_sub hfs (List.mem_map.mpr ⟨s, hsm, rfl⟩), rfl, rfl⟩⟩))), fun h => ⟨fun h => (nomatch h), fun _ => sxh_next ⟨_, _, _, _, _, _, filk_put hsn hf (qk_of hnd hsm ⟨x1, x2⟩), putDc_nd hfn, putDc_sub hfs (List.mem_map.mpr ⟨s, hsm, rfl⟩), rfl, rfl⟩⟩⟩)))))
      exact sxh_dput (β := Int) (rβ := inferInstance) 0 rfl rfl fun W2 hW2 => ev_var rfl (ev_ixSp0 (congrArg Bs.K (hW2.B.trans hB)) (ev_var rfl ⟨by omega, fun kv3 => ⟨kv3, _, _, _, _, _, filk_put2 hsn hf (fun hl => absurd (of_decide_eq_true h) hl), putDc_nd (putDc_nd hfn), putDc_sub (putDc_sub hfs (List.mem_map.mpr ⟨s, hsm, rfl⟩)) (List.mem_map.mpr ⟨s, hsm, rfl⟩), rfl, rfl⟩⟩))
    rintro L' Γ' ⟨kvs, ds, o5, o6, o7, o8, hf, hfn, hfs, rfl, rfl⟩
    exact sxh_retY List.mem_cons_self rfl ⟨_, rfl, hp ds (fun s hs => (tkz_of hf s hs).1) hfn hfs hf.len⟩
def P_few : PT := fun rt xx ts => ∃ (ws : List Str), ts = [T Bx.mk, T ws] ∧ (ws.length ≤ 100 ∧ ∀ lot : List Str, lot.Sublist ws → rt (T lot))
theorem pc_few {rt : Ty → Prop} {xx : Xn → Prop} {ws : List Str} (h : ws.length ≤ 100 ∧ ∀ lot : List Str, lot.Sublist ws → rt (T lot)) : P_few rt xx [T Bx.mk, T ws] := ⟨_, rfl, h⟩
theorem ok_few (tx : Txt K mg A) : FnR P w K mg base CX0 2 A.f_few (spG (bs K A) P_few) := by
  have G_take := ok_take (P := P) (w := w) (base := base) tx
  refine fnR_of tx.g_few.d sc_few (len_ok (n := 2) fun rt xx ts hp => by obtain ⟨_, rfl, _⟩ := hp; rfl) (fun cdv Ar outer s H vs Q E hr h => ⟨_, (pss_one (ps_ret (pe_lc (own := [("_law_word_here", 2)]) rfl sc_few.nd (pi_listK K (pv 1)) (blkOk_by (N := ["_law_box_here", "_law_words_here", "_law_word_here"]) (sc := defScope s_few) (by decide +kernel)) (fun _ _ _ _ _ => (pg_name (i := 2) sc_few.nd rfl (Or.inl rfl))) (fun _ _ _ _ _ => (pts_one (pt_cmpR (op_eqDK K (huD hr)) (pe_callR G_take (room hr) rfl (tx.g_take).g (tx.g_take).kp pass0 (pa_cons (pv 0) (pa_cons pe_int pa_nil))) pe_int (nomark _)))) (fun _ _ _ _ _ => (pv 2))))),
      body_ok (N := ["_law_box_here", "_law_words_here", "_law_word_here"]) (fun W ts rt xx hB ho hw hp => ?_) h⟩)
  have hK : W.B.K = K := congrArg Bs.K hB
  obtain ⟨ws, rfl, hp⟩ := hp
  show Sx W _ [some (T Bx.mk), some (T ws), none] _
  obtain ⟨hl, hp⟩ := hp
  refine sx_ret (α := List Str) (rα := inferInstance) (ev_lc (α := Str) (β := Str) (rα := inferInstance) (rβ := inferInstance) hK (ev_var rfl ⟨by omega, fun i bs => bs.Sublist (ws.take i), List.Sublist.refl _, fun W' sb i a bs ha hb => ⟨[2], rfl, ?_⟩, fun bs hb => hp bs (by have hb : bs.Sublist (ws.take ws.length) := hb; rw [List.take_length] at hb; exact hb)⟩))
  have hB' : W'.B = Lw.bs K A := sb.B.trans hB
  have hK' : W'.B.K = K := congrArg Bs.K hB'
  refine tj_name (et_test (ev_eqG (α := Int) (rα := inferInstance) hK' (ev_callR hB' (ea_cons (ev_var rfl (ea_cons (ev_int (ea_nil (pc_take ⟨by decide, by decide, fun z z0 z1 => ⟨_, rfl, ev_int (eqg_in (by decide) trivial trivial ⟨fun _ => ev_var rfl ?_, fun _ => (show bs.Sublist (ws.take i) from hb).trans (show (ws.take i).Sublist (ws.take (i + 1)) by rw [List.take_succ]; exact List.sublist_append_left _ _)⟩)⟩⟩)))))))))
  have hb : bs.Sublist (ws.take i) := hb
  show (bs ++ [a]).Sublist (ws.take (i + 1))
  rw [List.take_succ, ha]
  exact hb.append (List.Sublist.refl _)
def P_refused : PT := fun rt xx ts => ∃ (gs : List Gau) (fl : List (List Str)) (lim : Int) (ks : List Str) (gone : List Str) (l : Int), ts = [T (Rk.mk gs fl), T (Kd.mk lim ks gone), T l] ∧ (gs.length ≤ 100 ∧ l < 0 ∧ Small l ∧ rt (T true))
theorem pc_refused {rt : Ty → Prop} {xx : Xn → Prop} {gs : List Gau} {fl : List (List Str)} {lim : Int} {ks : List Str} {gone : List Str} {l : Int} (h : gs.length ≤ 100 ∧ l < 0 ∧ Small l ∧ rt (T true)) : P_refused rt xx [T (Rk.mk gs fl), T (Kd.mk lim ks gone), T l] := ⟨_, _, _, _, _, _, rfl, h⟩
theorem ok_refused (tx : Txt K mg A) : FnR P w K mg base CX0 8 A.f_refused (spG (bs K A) P_refused) := by
  have G_Keeper_init := ok_Keeper_init (P := P) (w := w) (base := base) tx
  have G_Keeper_change := ok_Keeper_change (P := P) (w := w) (base := base) tx
  refine fnR_of tx.g_refused.d sc_refused (len_ok (n := 3) fun rt xx ts hp => by obtain ⟨_, _, _, _, _, _, rfl, _⟩ := hp; rfl) (fun cdv Ar outer s H vs Q E hr h => ⟨_, (pss_cons (ps_set (i := 3) sc_refused.nd rfl (Or.inl rfl) (pe_lst pa_nil))
        (pss_cons (ps_tryZ K (i := 4) (c := .ref A.c_BadLimit) rfl rfl sc_refused.nd rfl rfl ⟨rfl, by decide, Or.inl tx.c_BadLimit⟩ takes0 (fun Wx pn xe tk po => (pss_one (ps_expr (pe_makeZ (E := WE Wx) (tx.m_Keeper) G_Keeper_init (room hr) rfl tx.c_Keeper (passAt tk) (pa_cons (pv 0) (pa_cons (pv 2) pa_nil))))))
        (fun a oe cls d pn hz hf => (pss_one (ps_expr (pe_appendK K (pv 3) (pa_cons (pe_lst (pa_cons (pe_xf tx.xf_BadLimit tx.n_BadLimit_number hz hf (pv 4)) (pa_cons (pe_callB (call_isF K hz hf) (by rfl) tx.z_isinstance (by decide +kernel) (pa_cons (pv 4) (pa_cons (pe_glob (v := V.ref A.c_GaugeError) rfl tx.c_GaugeError rfl) pa_nil))) (pa_cons (pe_callB (call_isF K hz hf) (by rfl) tx.z_isinstance (by decide +kernel) (pa_cons (pv 4) (pa_cons (pe_glob (v := V.ref A.c_BadLiars) rfl tx.c_BadLiars rfl) pa_nil))) pa_nil)))) pa_nil))))))
        (pss_cons (ps_tryZ K (i := 4) (c := .ref A.c_BadLimit) rfl rfl sc_refused.nd rfl rfl ⟨rfl, by decide, Or.inl tx.c_BadLimit⟩ takes0 (fun Wx pn xe tk po => (pss_one (ps_expr (pe_methZ (E := WE Wx) (pv 1) (tx.cl_Keeper) (tx.m_Keeper_change) G_Keeper_change (room hr) (passAt tk) (pa_cons (pv 2) pa_nil)))))
        (fun a oe cls d pn hz hf => (pss_one (ps_expr (pe_appendK K (pv 3) (pa_cons (pe_lst (pa_cons (pe_xf tx.xf_BadLimit tx.n_BadLimit_number hz hf (pv 4)) (pa_cons (pe_callB (call_isF K hz hf) (by rfl) tx.z_isinstance (by decide +kernel) (pa_cons (pv 4) (pa_cons (pe_glob (v := V.ref A.c_GaugeError) rfl tx.c_GaugeError rfl) pa_nil))) (pa_cons (pe_callB (call_isF K hz hf) (by rfl) tx.z_isinstance (by decide +kernel) (pa_cons (pv 4) (pa_cons (pe_glob (v := V.ref A.c_BadLiars) rfl tx.c_BadLiars rfl) pa_nil))) pa_nil)))) pa_nil))))))
        (pss_one (ps_ret (pe_cmpR (op_eqDK K (huD hr)) (pv 3) (pe_lst (pa_cons (pe_lst (pa_cons (pv 2) (pa_cons pe_bl (pa_cons pe_bl pa_nil)))) (pa_cons (pe_lst (pa_cons (pv 2) (pa_cons pe_bl (pa_cons pe_bl pa_nil)))) pa_nil))) (nomark _))))))),
      body_ok (N := ["_law_rack", "_law_keeper", "_law_worth", "_law_found", "e"]) (fun W ts rt xx hB ho hw hp => ?_) h⟩)
  have hK : W.B.K = K := congrArg Bs.K hB
  obtain ⟨gs, fl, lim, ks, gone, l, rfl, hp⟩ := hp
  show Sx W _ [some (T (Rk.mk gs fl)), some (T (Kd.mk lim ks gone)), some (T l), none, none] _
  obtain ⟨hgl, hneg, sn, hp⟩ := hp
  refine sx_ownH fun F => ?_
  refine sxh_seq (sxh_newL (β := Li3 Int Bool Bool) (rβ := inferInstance) fun Wo hW => evF_lst (el_nil (α := Li3 Int Bool Bool) (rα := inferInstance) ⟨by decide, fun p vs => ?_⟩))
  show SxH W F _ [(p, .lst vs)] [some (T (Rk.mk gs fl)), some (T (Kd.mk lim ks gone)), some (T l), some (T (Ol.mk p vs ([] : List (Li3 Int Bool Bool)))), none] _
  refine sxh_seqI (fun L' Γ' => ∃ vs : List V, L' = [(p, .lst vs)] ∧ Γ' = [some (T (Rk.mk gs fl)), some (T (Kd.mk lim ks gone)), some (T l), some (T (Ol.mk p vs [(Li3.mk l true false : Li3 Int Bool Bool)])), none]) ?_ ?_
  · refine sxh_try (fun x => x = ⟨.BadLimit, [("number", .i l)]⟩) (fun W' Wx hB' hX => ?_) (fun a dd x hx => ?_)
    · exact sx_dropFX (β := KB) (fβ := inferInstance) (evFX_make (P := P_Keeper_init K A) (hB'.trans hB) rfl hX (ea_cons (ev_var rfl (ea_cons (ev_var rfl (ea_nil ⟨gs, fl, l, rfl, rfl, kpT tx, hgl, fun h0 => absurd h0 (Int.not_le.mpr hneg), fun _ => ⟨sn, rfl⟩⟩))))))
    · subst hx
      refine ⟨exm_at hB rfl tx.xm_BadLimit_BadLimit, ?_⟩
      refine sxh_append (α := Li3 Int Bool Bool) (rα := inferInstance) 0 rfl rfl fun Wo hW => ?_
      have hBo : Wo.B = bs K A := hW.B.trans hB
      refine ev_lst3 (ev_xfI (xcl_of hB rfl) (ev_var rfl ⟨⟨rfl, rfl⟩, l, by simp [List.lookup], ?_⟩))
      walk_at "g"
      refine isF_in hB rfl tx.ec_BadLimit rel_ref tx.kit_BadLimit_GaugeError ?_
      walk_at "g"
      exact isF_in hB rfl tx.ec_BadLimit rel_ref tx.kit_BadLimit_BadLiars ⟨by simp, fun v => ⟨_, rfl, rfl⟩⟩
  rintro L' Γ' ⟨vs, rfl, rfl⟩
  refine sxh_seqI (fun L' Γ' => ∃ vs : List V, L' = [(p, .lst vs)] ∧ Γ' = [some (T (Rk.mk gs fl)), some (T (Kd.mk lim ks gone)), some (T l), some (T (Ol.mk p vs [(Li3.mk l true false : Li3 Int Bool Bool), (Li3.mk l true false : Li3 Int Bool Bool)])), none]) ?_ ?_
  · refine sxh_try (fun x => x = ⟨.BadLimit, [("number", .i l)]⟩) (fun W' Wx hB' hX => ?_) (fun a dd x hx => ?_)
    · exact sx_drop (α := Unit) (rα := inferInstance) ((ev_kpX (P := P_ksetX) (fun _ _ _ _ h => .inl h) (hB'.trans hB) rfl (by decide +kernel) hX (ev_var rfl (ea_cons (ev_var rfl (ea_nil ⟨lim, ks, gone, l, rfl, hneg, sn, rfl⟩))))).imp fun _ z => z.elim)
    · subst hx
      refine ⟨exm_at hB rfl tx.xm_BadLimit_BadLimit, ?_⟩
      refine sxh_append (α := Li3 Int Bool Bool) (rα := inferInstance) 0 rfl rfl fun Wo hW => ?_
      have hBo : Wo.B = bs K A := hW.B.trans hB
      refine ev_lst3 (ev_xfI (xcl_of hB rfl) (ev_var rfl ⟨⟨rfl, rfl⟩, l, by simp [List.lookup], ?_⟩))
      walk_at "g"
      refine isF_in hB rfl tx.ec_BadLimit rel_ref tx.kit_BadLimit_GaugeError ?_
      walk_at "g"
      exact isF_in hB rfl tx.ec_BadLimit rel_ref tx.kit_BadLimit_BadLiars ⟨by simp, fun v => ⟨_, rfl, rfl⟩⟩
  rintro L' Γ' ⟨vs, rfl, rfl⟩
  refine sxh_freeze (Γ' := [some (T (Rk.mk gs fl)), some (T (Kd.mk lim ks gone)), some (T l), some (T [(Li3.mk l true false : Li3 Int Bool Bool), (Li3.mk l true false : Li3 Int Bool Bool)]), none]) (by repeat (first | exact .nil | (refine FrzH.ownL (by simp) ?_) | apply FrzH.same)) (sxh_pure fun Wf hWf => ?_)
  have hKf : Wf.B.K = K := congrArg Bs.K (hWf.B.trans hB)
  have hg : Dat.good [(Li3.mk l true false : Li3 Int Bool Bool), (Li3.mk l true false : Li3 Int Bool Bool)] := fun m hm => ⟨trivial, trivial, trivial⟩
  refine sx_ret (α := Bool) (rα := inferInstance) (ev_eqG (α := List (Li3 Int Bool Bool)) (rα := inferInstance) hKf (ev_var rfl (ev_lst (el_cons (ev_lst3 (ev_var rfl (ev_bl (ev_bl (el_cons (ev_lst3 (ev_var rfl (ev_bl (ev_bl (el_nil ⟨by show 2 ≤ 100000; decide, eqg_in (by decide) hg hg ?_⟩))))))))))))))
  rw [decide_eq_true rfl]
  exact hp
def P_toldX : PT := fun rt xx ts => ∃ (lim : Int) (ks gone : List Str) (ds : List (Str × Int)), ts = [T (Kd.mk lim ks gone), T (Dc.mk ds)] ∧ ks.length ≤ 1000 ∧ ((∃ (i : Nat) (w : Str), ks[i]? = some w ∧ getDc ds w = none ∧ (∀ j, j < i → ∀ m, ks[j]? = some m → (getDc ds m).isSome = true) ∧ (reprText w).length ≤ 3000 ∧ w.length ≤ 3000 ∧ rt (T (Li3.mk ("missing" : Str) w false))) ∨ (ks = [] ∧ rt (T (Li2.mk ("none" : Str) false))))
def spTold (K : PySem.W.Frag) (A : Ad) : Sp := fun vs H Q E => spG (bs K A) P_toldX vs H Q E ∨ spMx kpC (bs K A) (P_Keeper_take K A) vs H Q E
theorem ok_take_told (tx : Txt K mg A) : FnR P w K mg base CX0 4 A.f_take_told (spTold K A) := by
  have G_Keeper_take := ok_Keeper_take (P := P) (w := w) (base := base) tx
  refine fnR_of tx.g_take_told.d sc_take_told (fun vs H Q E h => ?_) (fun cdv Ar outer s H vs Q E hr h => ?_)
  · rcases h with h | h
    · obtain ⟨W, ts, rt, xx, _, _, d, ⟨lim, ks, gone, ds, rfl, _⟩, _⟩ := h
      exact d.length
    · obtain ⟨W, F, M, p, dx, c, fs0, b0, ws, ts, k, oF, nF, rfl, _, _, _, _, _, _, d, ⟨lim, ks, q, us, gone, ds, _, _, rfl, _⟩, _⟩ := h
      have := d.length
      exact congrArg (· + 1) this
  · refine ⟨_, (pss_one (ps_tryNK K rfl rfl sc_take_told.nd takes0 (fun Wx pn xe tk po => (pss_one (ps_ret (pe_methZ (E := WE Wx) (pv 0) (tx.cl_Keeper) (tx.m_Keeper_take) G_Keeper_take (room hr) (passAt tk) (pa_cons (pv 1) pa_nil)))))
        (HdsN.cons (i := 2) (c := .ref A.c_MissingReading) rfl rfl ⟨rfl, by decide, Or.inl tx.c_MissingReading⟩ (fun a oe cls d pn hz hf => (pss_one (ps_ret (pe_lst (pa_cons pe_str (pa_cons (pe_xf tx.xf_MissingReading tx.n_MissingReading_name hz hf (pv 2)) (pa_cons (pe_callB (call_isF K hz hf) (by rfl) tx.z_isinstance (by decide +kernel) (pa_cons (pv 2) (pa_cons (pe_glob (v := V.ref A.c_UnknownGauge) rfl tx.c_UnknownGauge rfl) pa_nil))) pa_nil)))))))
        (HdsN.cons (i := 2) (c := .ref A.c_NoLevel) rfl rfl ⟨rfl, by decide, Or.inl tx.c_NoLevel⟩ (fun a oe cls d pn hz hf => (pss_one (ps_ret (pe_lst (pa_cons pe_str (pa_cons (pe_callB (call_isF K hz hf) (by rfl) tx.z_isinstance (by decide +kernel) (pa_cons (pv 2) (pa_cons (pe_glob (v := V.ref A.c_Apart) rfl tx.c_Apart rfl) pa_nil))) pa_nil))))))
        HdsN.nil)))), ?_⟩
    try dsimp only [cxOf, Cx.nox]
    rcases h with h | h
    · refine body_ok (N := ["_law_keeper", "_law_readings", "e"]) (fun W ts rt xx hB ho hw hp => ?_) h
      have hK : W.B.K = K := congrArg Bs.K hB
      obtain ⟨lim, ks, gone, ds, rfl, hl, hp⟩ := hp
      show Sx W _ [some (T (Kd.mk lim ks gone)), some (T (Dc.mk ds)), none] _
      refine sx_tryNK (fun x => (∃ w : Str, x = ⟨.MissingReading, [("name", .s w)]⟩ ∧ rt (T (Li3.mk ("missing" : Str) w false))) ∨ (x = ⟨.NoLevel, []⟩ ∧ rt (T (Li2.mk ("none" : Str) false)))) (fun W' Wx hB' hX => ?_) (fun x hx => ?_)
      · have hB2 : W'.B = bs K A := hB'.trans hB
        refine sx_ret (α := Unit) (rα := inferInstance) ((ev_kpX (P := P_ktakeX) (fun _ _ _ _ h => .inl h) hB2 rfl (by decide +kernel) hX (ev_var rfl (ea_cons (ev_var rfl (ea_nil ⟨lim, ks, gone, ds, rfl, hl, ?_⟩))))).imp fun _ z => z.elim)
        rcases hp with ⟨i, w, h1, h2, h3, h4, h5, h6⟩ | ⟨h1, h2⟩
        · exact .inl ⟨i, w, h1, h2, h3, h4, h5, .inl ⟨w, rfl, h6⟩⟩
        · exact .inr ⟨h1, .inr ⟨rfl, h2⟩⟩
      · rcases hx with ⟨w, rfl, hq⟩ | ⟨rfl, hq⟩
        · refine .inl ⟨exm_at hB rfl tx.xm_MissingReading_MissingReading, fun a dd => ?_⟩
          refine sx_ret (α := Li3 Str Str Bool) (rα := inferInstance) (ev_lst3 (ev_str (ev_xfS (xcl_of hB rfl) (ev_var rfl ⟨⟨rfl, rfl⟩, w, by simp [List.lookup], ?_⟩))))
          walk_at "g"
          exact isF_in hB rfl tx.ec_MissingReading rel_ref tx.kit_MissingReading_UnknownGauge hq
        · refine .inr ⟨exm_atB hB rfl tx.xm_NoLevel_MissingReading, .inl ⟨exm_at hB rfl tx.xm_NoLevel_NoLevel, fun a dd => ?_⟩⟩
          refine sx_ret (α := Li2 Str Bool) (rα := inferInstance) (ev_lst2 (ev_str ?_))
          walk_at "g"
          exact isF_in hB rfl tx.ec_NoLevel rel_ref tx.kit_NoLevel_Apart hq
    · obtain ⟨W, F, M, p, dx, c, fs0, b0, ws, ts, k, oF, nF, rfl, hB, wF, nd, ho, hw, hf, hd, hp, hq⟩ := id h
      obtain ⟨lim, ks, q, us, gone, ds, hc, hb, rfl, _⟩ := id hp
      cases hd with
      | cons d1 hd =>
        cases hd
        subst hc hb
        refine ⟨.ref p, rfl, p, dx, fs0, rfl, ho.2 _ (List.mem_append_right _ List.mem_cons_self), look_none (by rw [FRep.nm hf]; show ("take" : Str) ∉ [("_limit" : Str), ("_kept" : Str), ("_dropped" : Str)]; decide +kernel), _, rfl, .inr ?_⟩
        exact h
def spLaw (K : PySem.W.Frag) : Sp := fun vs H Q _ => ∃ (a : Addr) (ns : List Int), vs = [.ref a] ∧ SqL K H a (ns.map V.int) ∧ ns.length ≤ 63 ∧ ∀ H', Q (.bl true) H'
theorem pc_rack {rt : G.Ty → Prop} {xx : Xn → Prop} {gs : List Gau} {grs : List Grp} (h1 : gs.length ≤ 100) (h2 : (gs.map Gau.nm).Nodup) (h3 : ∀ g ∈ gs, NmOk g.nm) (h4 : GrOk (gs.map Gau.nm) grs) (h : rt (T (Rk.mk gs (flF (gs.map Gau.nm) grs)))) : P_Rack_of rt xx [T (Cv.mk .Rack), T gs, T (Tl.mk grs)] := by
  refine ⟨_, gs, grs, rfl, .inl rfl, h1, grok_len h4 (by rw [List.length_map]; exact h1), h3, fun w hw => ?_, ?_⟩
  · obtain ⟨g, hg, rfl⟩ := List.mem_map.mp (h4.sub w hw)
    exact h3 g hg
  · rw [dupF_none.mpr h2]
    show (match badG (gs.map Gau.nm) [] (flatG grs) with | some (true, n) => _ | some (false, n) => _ | none => _)
    rw [badG_ok h4]
    exact h
/-- what a keeper keeps and has dropped after i deeds -/
structure KJ5 (ws : List Str) (i : Nat) (kk gg : List Str) : Prop where
  nd : kk.Nodup
  le : kk.length ≤ 100
  sub : ∀ m ∈ kk, m ∈ ws
  gle : gg.length ≤ i
  gsub : ∀ m ∈ gg, m ∈ ws
  gnd : gg.Nodup
  dis : ∀ m ∈ gg, m ∉ kk
theorem kj_next {ws : List Str} {i : Nat} {kk gg : List Str} (h : KJ5 ws i kk gg) : KJ5 ws (i + 1) kk gg := ⟨h.nd, h.le, h.sub, Nat.le_succ_of_le h.gle, h.gsub, h.gnd, h.dis⟩
theorem kj_drop {ws : List Str} {i : Nat} {kk gg : List Str} {far : Str} (h : KJ5 ws i kk gg) (hm : far ∈ kk) : KJ5 ws (i + 1) (kk.filter fun o => decide (o ≠ far)) (gg ++ [far]) := by
  refine ⟨h.nd.sublist List.filter_sublist, Nat.le_trans (List.length_filter_le _ _) h.le, fun m hm => h.sub m (List.mem_filter.mp hm).1, by rw [List.length_append]; show gg.length + 1 ≤ i + 1; have := h.gle; omega, fun m hm2 => ?_, ?_, fun m hm2 hk => ?_⟩
  · rcases List.mem_append.mp hm2 with hm2 | hm2
    · exact h.gsub m hm2
    · rw [List.mem_singleton.mp hm2]
      exact h.sub _ hm
  · refine List.nodup_append.mpr ⟨h.gnd, by simp, fun a ha b hb e => ?_⟩
    rw [List.mem_singleton.mp hb] at e
    rw [e] at ha
    exact h.dis _ ha hm
  · obtain ⟨h1, h2⟩ := List.mem_filter.mp hk
    rcases List.mem_append.mp hm2 with hm2 | hm2
    · exact h.dis m hm2 h1
    · exact of_decide_eq_true h2 (List.mem_singleton.mp hm2)
theorem small_neg {w : Int} (h0 : 0 ≤ w) (h1 : w ≤ 2000000000000) : Small (-1 - w) := by
  unfold Small
  have h2 : (-1 - w).natAbs < 2 ^ 64 := by omega
  exact Nat.lt_trans (Nat.log2_lt (by omega) |>.mpr h2) (by decide)
/-- the first of the kept names that has no reading -/
theorem first_mis {ks : List Str} {ds : List (Str × Int)} : (ks.filter (fun w => !(getDc ds w).isSome) = [] ∧ ∀ w ∈ ks, (getDc ds w).isSome = true) ∨ ∃ (i : Nat) (w : Str) (r : List Str), ks.filter (fun w => !(getDc ds w).isSome) = w :: r ∧ ks[i]? = some w ∧ getDc ds w = none ∧ ∀ j, j < i → ∀ m, ks[j]? = some m → (getDc ds m).isSome = true := by
  induction ks with
  | nil => exact .inl ⟨rfl, fun w h => (nomatch h)⟩
  | cons a ks ih =>
    cases e : getDc ds a with
    | none =>
      refine .inr ⟨0, a, ks.filter (fun w => !(getDc ds w).isSome), ?_, rfl, e, fun j hj => absurd hj (Nat.not_lt_zero _)⟩
      rw [List.filter_cons, e]
      rfl
    | some b =>
      have hf : (a :: ks).filter (fun w => !(getDc ds w).isSome) = ks.filter (fun w => !(getDc ds w).isSome) := by
        rw [List.filter_cons, e]
        rfl
      rcases ih with ⟨h1, h2⟩ | ⟨i, w, r, h1, h2, h3, h4⟩
      · refine .inl ⟨by rw [hf]; exact h1, fun w hw => ?_⟩
        rcases List.mem_cons.mp hw with rfl | hw
        · rw [e]
          rfl
        · exact h2 w hw
      · refine .inr ⟨i + 1, w, r, by rw [hf]; exact h1, h2, h3, fun j hj m hm => ?_⟩
        cases j with
        | zero =>
          have hm : a = m := Option.some.inj hm
          rw [← hm, e]
          rfl
        | succ j => exact h4 j (Nat.lt_of_succ_lt_succ hj) m hm
theorem ok_law' (tx : Txt K mg A) {fd : FuncData} (F : Fun K "law" "law" s_law A.f_law fd) : FnOk P w K mg base CX0 10 A.f_law fd ["_law_script"] (spLaw K) := by
  have G_box := ok_box (P := P) (w := w) (base := base) tx
  have G_words := ok_words (P := P) (w := w) (base := base) tx
  have G_take := ok_take (P := P) (w := w) (base := base) tx
  have G_specs := ok_specs (P := P) (w := w) (base := base) tx
  have G_Rack_of := ok_Rack_of (P := P) (w := w) (base := base) tx
  have G_gauges := ok_gauges (P := P) (w := w) (base := base) tx
  have G_Keeper_init := ok_Keeper_init (P := P) (w := w) (base := base) tx
  have G_spot := ok_spot (P := P) (w := w) (base := base) tx
  have G_tick := ok_tick (P := P) (w := w) (base := base) tx
  have G_Keeper_change := ok_Keeper_change (P := P) (w := w) (base := base) tx
  have G_refused := ok_refused (P := P) (w := w) (base := base) tx
  have G_take_told := ok_take_told (P := P) (w := w) (base := base) tx
  have G_few := ok_few (P := P) (w := w) (base := base) tx
  have G_farthest := ok_farthest (P := P) (w := w) (base := base) tx
  have G_Keeper_dropped := ok_Keeper_dropped (P := P) (w := w) (base := base) tx
  have G_Keeper_kept := ok_Keeper_kept (P := P) (w := w) (base := base) tx
  have G_Keeper_limit := ok_Keeper_limit (P := P) (w := w) (base := base) tx
  refine F.ok sc_law (fun vs H Q E h => ?_) (fun cdv Ar outer s H vs Q E hr h => ?_)
  · obtain ⟨a, ns, rfl, _⟩ := h; rfl
  · refine ⟨_, (pss_cons (ps_set (i := 1) sc_law.nd rfl (Or.inl rfl) (pe_callR G_box (room hr) rfl (tx.g_box).g (tx.g_box).kp pass0 (pa_cons (pv 0) (pa_cons pe_int pa_nil))))
        (pss_cons (ps_set (i := 2) sc_law.nd rfl (Or.inl rfl) (pe_callR G_words (room hr) rfl (tx.g_words).g (tx.g_words).kp pass0 (pa_cons (pv 1) (pa_cons (pe_callR G_take (room hr) rfl (tx.g_take).g (tx.g_take).kp pass0 (pa_cons (pv 1) (pa_cons pe_int pa_nil))) pa_nil))))
        (pss_cons (ps_set (i := 3) sc_law.nd rfl (Or.inl rfl) (pe_callR G_specs (room hr) rfl (tx.g_specs).g (tx.g_specs).kp pass0 (pa_cons (pv 1) (pa_cons (pv 2) pa_nil))))
        (pss_cons (ps_set (i := 4) sc_law.nd rfl (Or.inl rfl) (pe_callR G_take (room hr) rfl (tx.g_take).g (tx.g_take).kp pass0 (pa_cons (pv 1) (pa_cons pe_int pa_nil))))
        (pss_cons (ps_set (i := 5) sc_law.nd rfl (Or.inl rfl) (pe_cmethZ (E := fun _ => E0) (tx.r_Rack) (tx.q_Rack_of) G_Rack_of.1 (room hr) passSL tx.c_Rack (pa_cons (pe_callR G_gauges (room hr) rfl (tx.g_gauges).g (tx.g_gauges).kp pass0 (pa_cons (pv 3) pa_nil)) (pa_cons (pe_slice (sl_tupAK K) (pe_tup (pa_cons (pe_tup pa_nil) (pa_cons (pe_tupleOfK K (by rfl) tx.z_tuple (pv 2)) pa_nil))) po_none (po_some (pe_op op_add pe_int (pe_op op_fdiv (pv 4) pe_int)))) pa_nil))))
        (pss_cons (ps_set (i := 6) sc_law.nd rfl (Or.inl rfl) (pe_makeZ (E := fun _ => E0) (tx.m_Keeper) G_Keeper_init (room hr) rfl tx.c_Keeper passSL (pa_cons (pv 5) (pa_cons (pv 4) pa_nil))))
        (pss_cons (ps_set (i := 7) sc_law.nd rfl (Or.inl rfl) (pe_callTy (call_list_ofK K) (by rfl) tx.z_list (by decide +kernel) (pa_cons (pv 2) pa_nil)))
        (pss_cons (ps_set (i := 8) sc_law.nd rfl (Or.inl rfl) (pe_lst pa_nil))
        (pss_cons (ps_for PassesOwn.never rfl (pi_range1 (by rfl) tx.z_range (pa_cons (pe_callR G_take (room hr) rfl (tx.g_take).g (tx.g_take).kp pass0 (pa_cons (pv 1) (pa_cons pe_int pa_nil))) pa_nil)) (pg_name (i := 9) sc_law.nd rfl (Or.inl rfl)) (pss_cons (ps_set (i := 10) sc_law.nd rfl (Or.inl rfl) (pe_callR G_take (room hr) rfl (tx.g_take).g (tx.g_take).kp pass0 (pa_cons (pv 1) (pa_cons pe_int pa_nil))))
        (pss_cons (ps_set (i := 11) sc_law.nd rfl (Or.inl rfl) (pe_op op_add (pe_ix (ix_listK K) (pe_lst (pa_cons pe_int (pa_cons pe_int (pa_cons (pe_op op_pow pe_int pe_int) pa_nil)))) (pe_callR G_take (room hr) rfl (tx.g_take).g (tx.g_take).kp pass0 (pa_cons (pv 1) (pa_cons pe_int pa_nil))) (fun _ _ => rfl)) (pe_callR G_take (room hr) rfl (tx.g_take).g (tx.g_take).kp pass0 (pa_cons (pv 1) (pa_cons pe_int pa_nil)))))
        (pss_cons (ps_set (i := 12) sc_law.nd rfl (Or.inl rfl) (pe_callR G_spot (room hr) rfl (tx.g_spot).g (tx.g_spot).kp pass0 (pa_cons (pv 1) pa_nil)))
        (pss_cons (ps_set (i := 13) sc_law.nd rfl (Or.inr rfl) (pe_callR G_tick (room hr) rfl (tx.g_tick).g (tx.g_tick).kp pass0 (pa_cons (pv 1) (pa_cons (pv 3) (pa_cons (pv 2) (pa_cons (pv 12) pa_nil))))))
        (pss_cons (ps_if (pt_cmpR (op_eqDK K (huD hr)) (pv 10) pe_int (nomark _)) (pss_cons (ps_if (pt_cmpR op_notN (pe_methZ (E := fun _ => E0) (pv 6) (tx.cl_Keeper) (tx.m_Keeper_change) G_Keeper_change (room hr) passSL (pa_cons (pv 11) pa_nil)) pe_non (nomark _)) (pss_one (ps_ret pe_bl)) pss_nil)
        (pss_one (ps_set (i := 4) sc_law.nd rfl (Or.inl rfl) (pv 11)))) (pss_one (ps_if (pt_cmpR (op_eqDK K (huD hr)) (pv 10) pe_int (nomark _)) (pss_one (ps_if (pt_not (pt_val (pe_callR G_refused (room hr) rfl (tx.g_refused).g (tx.g_refused).kp pass0 (pa_cons (pv 5) (pa_cons (pv 6) (pa_cons (pe_op op_sub (pe_un un_neg pe_int) (pv 11)) pa_nil)))))) (pss_one (ps_ret pe_bl)) pss_nil)) (pss_one (ps_if (pt_not (pt_truthK K (pv 7) (fun _ => rfl))) (pss_one (ps_if (pt_cmpR (op_neDK K (huD hr)) (pe_callR G_take_told (room hr) rfl (tx.g_take_told).g (tx.g_take_told).kp pass0 (pa_cons (pv 6) (pa_cons (pv 13) pa_nil))) (pe_lst (pa_cons pe_str (pa_cons pe_bl pa_nil))) (nomark _)) (pss_one (ps_ret pe_bl)) pss_nil)) (pss_cons (ps_for PassesOwn.never rfl (pi_listK K (pe_op op_cat (pv 8) (pe_op op_rep (pe_callR G_few (room hr) rfl (tx.g_few).g (tx.g_few).kp pass0 (pa_cons (pv 1) (pa_cons (pv 7) pa_nil))) (pe_callTy call_int1 (by rfl) tx.z_int (by decide +kernel) (pa_cons (pe_cmpR (op_eqDK K (huD hr)) (pv 10) pe_int (nomark _)) pa_nil))))) (pg_name (i := 14) sc_law.nd rfl (Or.inl rfl)) (pss_one (ps_expr (pe_dpop1 (pv 13) (pv 14) ⟨rfl, rfl, rfl, rfl⟩))))
        (pss_cons (ps_setLc (i := 15) (own := [("_law_word_here", 14)]) rfl sc_law.nd rfl rfl (sw_true rfl rfl rfl (by decide +kernel)) (pi_listK K (pv 7)) (blkOk_by (N := ["_law_script", "_law_box_here", "_law_words_here", "_law_specs_here", "_law_limit_now", "_law_rack", "_law_keeper", "_law_kept", "_law_gone", "_law_turn", "_law_deed", "_law_worth", "_law_spot_here", "_law_readings", "_law_word_here", "_law_missing", "_law_due", "_law_far"]) (sc := defScope s_law) (by decide +kernel)) (fun _ _ _ _ _ => (pg_name (i := 14) sc_law.nd rfl (Or.inl rfl))) (fun _ _ _ _ _ => (pts_one (pt_cmp (pc_dnotin (huX hr) (pv 14) (pv 13))))) (fun _ _ _ _ _ => (pv 14)))
        (pss_cons (ps_set (i := 16) sc_law.nd rfl (Or.inl rfl) (pe_op op_cat (pe_op op_cat (pe_lst (pa_cons pe_str pa_nil)) (pe_slice (sl_listK K) (pv 15) po_none (po_some pe_int))) (pe_lst (pa_cons pe_bl pa_nil))))
        (pss_cons (ps_if (pt_not (pt_truthK K (pv 15) (fun _ => rfl))) (pss_cons (ps_set (i := 17) sc_law.nd rfl (Or.inr rfl) (pe_callR G_farthest (room hr) rfl (tx.g_farthest).g (tx.g_farthest).kp pass0 (pa_cons (pv 7) (pa_cons (pv 13) pa_nil))))
        (pss_cons (ps_set (i := 16) sc_law.nd rfl (Or.inl rfl) (pe_ix (ix_tupK K) (pv 17) pe_int (fun _ _ => rfl)))
        (pss_one (ps_if (pt_cmpR op_gt (pe_ix (ix_tupK K) (pv 17) pe_int (fun _ _ => rfl)) (pv 4) (nomark _)) (pss_cons (ps_setLc (i := 7) (own := [("_law_word_here", 14)]) rfl sc_law.nd rfl rfl (sw_true rfl rfl rfl (by decide +kernel)) (pi_listK K (pv 7)) (blkOk_by (N := ["_law_script", "_law_box_here", "_law_words_here", "_law_specs_here", "_law_limit_now", "_law_rack", "_law_keeper", "_law_kept", "_law_gone", "_law_turn", "_law_deed", "_law_worth", "_law_spot_here", "_law_readings", "_law_word_here", "_law_missing", "_law_due", "_law_far"]) (sc := defScope s_law) (by decide +kernel)) (fun _ _ _ _ _ => (pg_name (i := 14) sc_law.nd rfl (Or.inl rfl))) (fun _ _ _ _ _ => (pts_one (pt_cmpR (op_neDK K (huD hr)) (pv 14) (pe_ix (ix_tupK K) (pv 17) pe_int (fun _ _ => rfl)) (nomark _)))) (fun _ _ _ _ _ => (pv 14)))
        (pss_one (ps_set (i := 8) sc_law.nd rfl (Or.inl rfl) (pe_op op_cat (pv 8) (pe_lst (pa_cons (pe_ix (ix_tupK K) (pv 17) pe_int (fun _ _ => rfl)) pa_nil)))))) pss_nil)))) pss_nil)
        (pss_one (ps_if (pt_cmpR (op_neDK K (huD hr)) (pe_callR G_take_told (room hr) rfl (tx.g_take_told).g (tx.g_take_told).kp pass0 (pa_cons (pv 6) (pa_cons (pv 13) pa_nil))) (pv 16) (nomark _)) (pss_one (ps_ret pe_bl)) pss_nil)))))))))))
        (pss_one (ps_if (PW.pt (pw_or (pt_cmpR (op_neDK K (huD hr)) (pe_propZ (pv 6) (tx.cl_Keeper) (tx.p_Keeper_limit) G_Keeper_limit (room hr) noX0) (pv 4) (nomark _)) (pw_or (pt_cmpR (op_neDK K (huD hr)) (pe_methZ0 (E := fun _ => E0) (pv 6) (tx.cl_Keeper) (tx.m_Keeper_kept) G_Keeper_kept (room hr) passS0) (pv 7) (nomark _)) (pw_or1 (pt_cmpR (op_neDK K (huD hr)) (pe_methZ0 (E := fun _ => E0) (pv 6) (tx.cl_Keeper) (tx.m_Keeper_dropped) G_Keeper_dropped (room hr) passS0) (pv 8) (nomark _)))))) (pss_one (ps_ret pe_bl)) pss_nil))))))))
        (pss_one (ps_ret pe_bl))))))))))), ?_⟩
    try dsimp only [cxOf, Cx.nox]
    obtain ⟨a, ns, rfl, hS, hl, kq⟩ := h
    refine raw_seq (raw_asg ⟨_, rfl, a, ns, 150, rfl, hS, hl, fun b c H' hbc hb hc => ?_⟩)
    dsimp only
    refine law_run (B := bs K A) (j := 1) hbc hb hc (by exact rfl) kq fun W hB => ?_
    have hK : W.B.K = K := congrArg Bs.K hB
    show Sx W _ [none, some (T Bx.mk), none, none, none, none, none, none, none, none, none, none, none, none, none, none, none, none] _
    walk_at "g"
    refine pc_take ⟨by decide, by decide, fun m m0 m1 => ⟨_, rfl, ?_⟩⟩
    try walk_at "g"
    refine pc_words ⟨by omega, by omega, fun ws hwl hwn hwg => ⟨_, rfl, ?_⟩⟩
    have hl100 : ws.length ≤ 100 := by omega
    have hw7 : ws.length ≤ 6 := by omega
    walk_at "g"
    refine pc_specs ⟨hl100, hwg, fun ss hsn hso => ⟨_, rfl, ?_⟩⟩
    have hss : ss.length = ws.length := by rw [← hsn, List.length_map]
    have hwok : ∀ w ∈ ws, PyData.strOk w = true := fun w hw => goodW_ok (hwg w hw)
    have hgn : (ss.map gauS).map Gau.nm = ws := by rw [List.map_map]; exact hsn
    have hgsl : (ss.map gauS).length ≤ 100 := by rw [List.length_map]; omega
    have hgnm : ∀ g ∈ ss.map gauS, NmOk g.nm := fun g hg => good_nm (hwg g.nm (by rw [← hgn]; exact List.mem_map.mpr ⟨g, hg, rfl⟩))
    have hgnd : ((ss.map gauS).map Gau.nm).Nodup := by rw [hgn]; exact hwn
    have hssn : (ss.map (·.nm)).Nodup := by rw [hsn]; exact hwn
    show Sx W _ [none, some (T Bx.mk), some (T ws), some (T ss), none, none, none, none, none, none, none, none, none, none, none, none, none, none] _
    refine sx_seqI (fun Γ' => ∃ lim : Int, 0 ≤ lim ∧ lim < 30 ∧ Γ' = [none, some (T Bx.mk), some (T ws), some (T ss), some (T lim), none, none, none, none, none, none, none, none, none, none, none, none, none]) ?_ ?_
    · exact sx_set (α := Int) (rα := inferInstance) (ev_callR hB (ea_cons (ev_var rfl (ea_cons (ev_int (ea_nil (pc_take ⟨by decide, by decide, fun z z0 z1 => ⟨_, rfl, z, z0, z1, rfl⟩⟩)))))))
    rintro Γ' ⟨lim, hlim0, hlim1, rfl⟩
    refine sx_seqI (fun Γ' => ∃ fl : List (List Str), RkOk (ss.map gauS) fl ∧ Γ' = [none, some (T Bx.mk), some (T ws), some (T ss), some (T lim), some (T (Rk.mk (ss.map gauS) fl)), none, none, none, none, none, none, none, none, none, none, none, none]) ?_ ?_
    · refine sx_set (α := Rk) (rα := inferInstance) (ev_cmethZ .Rack hB rfl hx0 (ea_cons (α := List Gau) (rα := inferInstance) (ev_callR hB (ea_cons (ev_var rfl (ea_nil (pc_gauges ⟨by omega, hso, _, rfl, ?_⟩)))))))
      have rk : ∀ {grs : List Grp}, GrOk ws grs → EvA W tNil [none, some (T Bx.mk), some (T ws), some (T ss), some (T lim), none, none, none, none, none, none, none, none, none, none, none, none, none] fun ts => P_Rack_of (fun t => ∃ a : Rk, t = T a ∧ (∃ fl : List (List Str), RkOk (ss.map gauS) fl ∧ [none, some (T Bx.mk), some (T ws), some (T ss), some (T lim), none, none, none, none, none, none, none, none, none, none, none, none, none].set 5 (some (T a)) = [none, some (T Bx.mk), some (T ws), some (T ss), some (T lim), some (T (Rk.mk (ss.map gauS) fl)), none, none, none, none, none, none, none, none, none, none, none, none])) (fun _ => False) (T (Cv.mk .Rack) :: T (ss.map gauS) :: T (Tl.mk grs) :: ts) := fun {grs} hgr => ea_nil (pc_rack hgsl hgnd hgnm (by rw [hgn]; exact hgr) ⟨_, rfl, _, rkok_of hgsl hgnd hgnm (fun g hg => by
        obtain ⟨s, hs, rfl⟩ := List.mem_map.mp hg
        exact gauS_ok (hso s hs)), rfl⟩)
      refine ea_cons (α := Tl Grp) (rα := inferInstance) (ev_uptoTl (1 + lim / 16).toNat hK (ev_tupN (α := Grp) (rα := inferInstance) (el_cons (ev_tupT0 (el_cons (ev_tupL hK (ev_var rfl (el_nil ⟨by show 2 ≤ 100000; decide, ?_, ?_⟩))))))))
      · refine ev_opI (ev_int (ev_opC (ev_var rfl (ev_int ⟨?_, ?_⟩))))
        · exact ⟨by decide, by decide⟩
        · show 1 + lim / 16 = ((1 + lim / 16).toNat : Int)
          omega
      · have h12 : (1 + lim / 16).toNat = 1 ∨ (1 + lim / 16).toNat = 2 := by omega
        rcases h12 with e | e
        · rw [e]
          exact rk ⟨.nil, fun w hw => (nomatch hw)⟩
        · rw [e]
          have hfg : flatG [(⟨[]⟩ : Grp), ⟨ws⟩] = ws := by
            unfold flatG
            simp
          exact rk (grs := [(⟨[]⟩ : Grp), ⟨ws⟩]) ⟨by rw [hfg]; exact hwn, fun w hw => by rw [hfg] at hw; exact hw⟩
    rintro Γ' ⟨fl, hok, rfl⟩
    have hTW : KpT W.B := by rw [hB]; exact kpT tx
    refine sx_ownH fun F => ?_
    refine sxh_seq (sxh_newFX (cs := kpC) (c := .Keeper) fun Wo hW => evFX_make (P := P_Keeper_init K A) (hW.B.trans hB) rfl hx0 (ea_cons (ev_var rfl (ea_cons (ev_var rfl (ea_nil ⟨ss.map gauS, fl, lim, rfl, rfl, kpT tx, hgsl, fun _ q us p dx fs => ?_, fun h => absurd hlim0 (Int.not_le.mpr h)⟩))))))
    rw [hgn]
    show SxH W F _ [(q, .lst us), (p, .ins (W.B.cl .Keeper) dx fs)] [none, some (T Bx.mk), some (T ws), some (T ss), some (T lim), some (T (Rk.mk (ss.map gauS) fl)), some (T (Oi.mk p .Keeper dx fs (kpB lim ws q us []))), none, none, none, none, none, none, none, none, none, none, none] _
    refine sxh_seq (sxh_pure fun Wo hW => sx_set (α := List Str) (rα := inferInstance) (EvF.k (evF_listOf (α := Str) (rα := inferInstance) (congrArg Bs.K (hW.B.trans hB)) (ev_var rfl ?_))))
    refine sxh_seq (sxh_pure fun Wo hW => sx_set (α := List Str) (rα := inferInstance) (ev_lst (el_nil ⟨by decide, ?_⟩)))
    show SxH W F _ [(q, .lst us), (p, .ins (W.B.cl .Keeper) dx fs)] [none, some (T Bx.mk), some (T ws), some (T ss), some (T lim), some (T (Rk.mk (ss.map gauS) fl)), some (T (Oi.mk p .Keeper dx fs (kpB lim ws q us []))), some (T ws), some (T ([] : List Str)), none, none, none, none, none, none, none, none, none] _
    refine sxh_seq (sxh_forI (α := Int) (rα := inferInstance) fun Wo hW => ei_rng1 (ev_callR (hW.B.trans hB) (ea_cons (ev_var rfl (ea_cons (ev_int (ea_nil (pc_take ⟨by decide, by decide, fun n n0 n1 => ⟨_, rfl, ⟨by omega, by omega⟩, ?_⟩⟩))))))))
    obtain ⟨cnt, rfl⟩ : ∃ c : Nat, n = (c : Int) := ⟨n.toNat, by omega⟩
    refine ⟨fun i L' Γ' => ∃ (lim : Int) (kk gg : List Str) (us : List V) (fs : List (Str × V)) (o9 o10 o11 o12 o13 o14 o15 o16 o17 : Option G.Ty), 0 ≤ lim ∧ KJ5 ws i kk gg ∧ L' = [(q, .lst us), (p, .ins (W.B.cl .Keeper) dx fs)] ∧ Γ' = [none, some (T Bx.mk), some (T ws), some (T ss), some (T lim), some (T (Rk.mk (ss.map gauS) fl)), some (T (Oi.mk p .Keeper dx fs (kpB lim kk q us gg))), some (T kk), some (T gg), o9, o10, o11, o12, o13, o14, o15, o16, o17], ⟨lim, ws, [], us, fs, none, none, none, none, none, none, none, none, none, hlim0, ⟨hwn, hl100, fun m hm => hm, Nat.le_refl _, fun m hm => (nomatch hm), .nil, fun m hm => (nomatch hm)⟩, rfl, rfl⟩, ?_, ?_, ?_⟩
    · rintro i L' Γ' ⟨lim, kk, gg, us, fs, o9, o10, o11, o12, o13, o14, o15, o16, o17, _, _, rfl, _⟩
      rfl
    · clear hlim0 hlim1
      rintro i t L' Γ' hi ⟨lim, kk, gg, us, fs, o9, o10, o11, o12, o13, o14, o15, o16, o17, hlim0, hI, rfl, rfl⟩ Wo' hW'
      have hi12 : i < 11 := by
        have := (List.getElem?_eq_some_iff.mp hi).1
        rw [List.length_map, List.length_range] at this
        omega
      have hgle := hI.gle
      have hkle := hI.le
      refine tg_name ?_
      refine sxh_seq (sxh_pure fun Wz hWz => sx_set (α := Int) (rα := inferInstance) (ev_callR (hWz.B.trans hB) (ea_cons (ev_var rfl (ea_cons (ev_int (ea_nil (pc_take ⟨by decide, by decide, fun de de0 de1 => ⟨_, rfl, ?_⟩⟩))))))))
      refine sxh_seqI (fun L' Γ' => ∃ wo : Int, 0 ≤ wo ∧ wo ≤ 2000000000000 ∧ L' = [(q, .lst us), (p, .ins (W.B.cl .Keeper) dx fs)] ∧ Γ' = [none, some (T Bx.mk), some (T ws), some (T ss), some (T lim), some (T (Rk.mk (ss.map gauS) fl)), some (T (Oi.mk p .Keeper dx fs (kpB lim kk q us gg))), some (T kk), some (T gg), some (T t), some (T de), some (T wo), o12, o13, o14, o15, o16, o17]) ?_ ?_
      · refine sxh_pure fun Wz hWz => sx_set (α := Int) (rα := inferInstance) (ev_opI (ev_ixL (α := Int) (rα := inferInstance) (congrArg Bs.K (hWz.B.trans hB)) (ev_lst (el_cons (ev_int (el_cons (ev_int (el_cons (ev_pow (by exact ⟨by decide, by decide, by decide⟩) (el_nil ⟨by show 3 ≤ 100000; decide, ev_callR (hWz.B.trans hB) (ea_cons (ev_var rfl (ea_cons (ev_int (ea_nil (pc_take ⟨by decide, by decide, fun z z0 z1 => ⟨_, rfl, ?_⟩⟩))))))⟩))))))))))
        obtain ⟨x, hx, x0, x1⟩ : ∃ x : Int, atI [0, 3, 10 ^ (12 : Int).toNat] z = some x ∧ 0 ≤ x ∧ x ≤ 1000000000000 := by
          have : z = 0 ∨ z = 1 ∨ z = 2 := by omega
          rcases this with rfl | rfl | rfl
          · exact ⟨0, rfl, by decide, by decide⟩
          · exact ⟨3, rfl, by decide, by decide⟩
          · exact ⟨10 ^ (12 : Int).toNat, rfl, by decide, by decide⟩
        exact ⟨x, hx, ev_callR (hWz.B.trans hB) (ea_cons (ev_var rfl (ea_cons (ev_int (ea_nil (pc_take ⟨by decide, by decide, fun y y0 y1 => ⟨_, rfl, x + y, by omega, by omega, rfl, rfl⟩⟩))))))⟩
      rintro L' Γ' ⟨wo, hwo0, hwo1, rfl, rfl⟩
      refine sxh_seq (sxh_pure fun Wz hWz => sx_set (α := Int) (rα := inferInstance) (ev_callR (hWz.B.trans hB) (ea_cons (ev_var rfl (ea_nil (pc_spot fun pt => ⟨_, rfl, ?_⟩))))))
      refine sxh_seq (sxh_newFD fun Wo hW => evFD_call (hW.B.trans hB) (ea_cons (ev_var rfl (ea_cons (ev_var rfl (ea_cons (ev_var rfl (ea_cons (ev_var rfl (ea_nil (pc_tick ⟨hso, hssn, by omega, by omega, fun ds hds hdn hdk hdl r kv => ?_⟩)))))))))))
      show SxH W F _ ((r, .dK kv) :: [(q, .lst us), (p, .ins (W.B.cl .Keeper) dx fs)]) [none, some (T Bx.mk), some (T ws), some (T ss), some (T lim), some (T (Rk.mk (ss.map gauS) fl)), some (T (Oi.mk p .Keeper dx fs (kpB lim kk q us gg))), some (T kk), some (T gg), some (T t), some (T de), some (T wo), some (T pt), some (T (Od.mk r kv ds)), o14, o15, o16, o17] _
      have hdw : ∀ w ∈ ws, (getDc ds w).isSome = true := fun w hw => by
        rw [← hsn] at hw
        obtain ⟨s, hs, rfl⟩ := List.mem_map.mp hw
        exact hds s hs
      refine sxh_seqI (fun L' Γ' => ∃ (lim : Int) (kk gg : List Str) (us : List V) (fs : List (Str × V)) (o9 o10 o11 o12 o13 o14 o15 o16 o17 : Option G.Ty), 0 ≤ lim ∧ KJ5 ws (i + 1) kk gg ∧ L' = [(q, .lst us), (p, .ins (W.B.cl .Keeper) dx fs)] ∧ Γ' = [none, some (T Bx.mk), some (T ws), some (T ss), some (T lim), some (T (Rk.mk (ss.map gauS) fl)), some (T (Oi.mk p .Keeper dx fs (kpB lim kk q us gg))), some (T kk), some (T gg), o9, o10, o11, o12, o13, o14, o15, o16, o17]) ?_ ?_
      · refine sxh_if fun Wz hWz => et_test (ev_eqG (α := Int) (rα := inferInstance) (congrArg Bs.K (hWz.B.trans hB)) (ev_var rfl (ev_int (eqg_in (by decide) trivial trivial ⟨fun _ => ?_, fun _ => ?_⟩))))
        · refine sxh_rest (Γ' := [none, some (T Bx.mk), some (T ws), some (T ss), some (T lim), some (T (Rk.mk (ss.map gauS) fl)), some (T (Oi.mk p .Keeper dx fs (kpB lim kk q us gg))), some (T kk), some (T gg), some (T t), some (T de), some (T wo), some (T pt), some (T (Dc.mk ds)), o14, o15, o16, o17]) (by repeat (first | exact .nil | apply RestQ.same | refine RestQ.conv (fun W' H v _ m h d => rest_od W' H v m h d) ?_)) ?_
          refine sxh_seq (sxh_ifM (etm_notN (evm_methU (cs := kpC) (P := P_kset K A) (M := []) (c := .Keeper) (fun _ _ _ _ h => .inr h) rfl rfl hB rfl (by show ("change" : Str) ∉ [("_limit" : Str), ("_kept" : Str), ("_dropped" : Str)]; decide +kernel) fun Wo hW => ea_cons (ev_var rfl (ea_nil ⟨lim, kk, q, us, gg, wo, rfl, rfl, rfl, kpT tx, hwo0, fun fs' => ⟨rfl, fun h => (nomatch h), fun _ => sxh_next ?_⟩⟩)))))
          exact sxh_pure fun Wz hWz => sx_set (α := Int) (rα := inferInstance) (ev_var rfl ⟨wo, kk, gg, us, fs', _, _, _, _, _, _, _, _, _, hwo0, kj_next hI, rfl, rfl⟩)
        refine sxh_if fun Wz hWz => et_test (ev_eqG (α := Int) (rα := inferInstance) (congrArg Bs.K (hWz.B.trans hB)) (ev_var rfl (ev_int (eqg_in (by decide) trivial trivial ⟨fun _ => ?_, fun _ => ?_⟩))))
        · refine sxh_rest (Γ' := [none, some (T Bx.mk), some (T ws), some (T ss), some (T lim), some (T (Rk.mk (ss.map gauS) fl)), some (T (Oi.mk p .Keeper dx fs (kpB lim kk q us gg))), some (T kk), some (T gg), some (T t), some (T de), some (T wo), some (T pt), some (T (Dc.mk ds)), o14, o15, o16, o17]) (by repeat (first | exact .nil | apply RestQ.same | refine RestQ.conv (fun W' H v _ m h d => rest_od W' H v m h d) ?_)) ?_
          exact sxh_lookIf (Γ' := [none, some (T Bx.mk), some (T ws), some (T ss), some (T lim), some (T (Rk.mk (ss.map gauS) fl)), some (T (Kd.mk lim kk gg)), some (T kk), some (T gg), some (T t), some (T de), some (T wo), some (T pt), some (T (Dc.mk ds)), o14, o15, o16, o17]) (by repeat (first | exact .nil | apply FrzH.same | refine FrzH.ownJ (fun W' H' e pin hf => kp_look hTW (List.mem_cons_of_mem _ List.mem_cons_self) List.mem_cons_self W' H' e pin hf) ?_)) (et_not (et_B (ev_callR hB (ea_cons (ev_var rfl (ea_cons (ev_var rfl (ea_cons (ev_opI (ev_unI (ev_int (ev_var rfl (ea_nil (pc_refused ⟨hgsl, by omega, small_neg hwo0 hwo1, true, rfl, fun h => (nomatch h), fun _ => sxh_next ⟨lim, kk, gg, us, fs, _, _, _, _, _, _, _, _, _, hlim0, kj_next hI, rfl, rfl⟩⟩))))))))))))))
        cases hkk : kk with
        | nil =>
          subst hkk
          refine sxh_if fun Wz hWz => et_not (et_truthL (α := Str) (rα := inferInstance) (congrArg Bs.K (hWz.B.trans hB)) (ev_var rfl ⟨fun _ => ?_, fun h => (nomatch h)⟩))
          refine sxh_rest (Γ' := [none, some (T Bx.mk), some (T ws), some (T ss), some (T lim), some (T (Rk.mk (ss.map gauS) fl)), some (T (Oi.mk p .Keeper dx fs (kpB lim [] q us gg))), some (T ([] : List Str)), some (T gg), some (T t), some (T de), some (T wo), some (T pt), some (T (Dc.mk ds)), o14, o15, o16, o17]) (by repeat (first | exact .nil | apply RestQ.same | refine RestQ.conv (fun W' H v _ m h d => rest_od W' H v m h d) ?_)) ?_
          have hg : Dat.good (Li2.mk ("none" : Str) false) := ⟨strOk_of _, trivial⟩
          exact sxh_lookIf (Γ' := [none, some (T Bx.mk), some (T ws), some (T ss), some (T lim), some (T (Rk.mk (ss.map gauS) fl)), some (T (Kd.mk lim [] gg)), some (T ([] : List Str)), some (T gg), some (T t), some (T de), some (T wo), some (T pt), some (T (Dc.mk ds)), o14, o15, o16, o17]) (by repeat (first | exact .nil | apply FrzH.same | refine FrzH.ownJ (fun W' H' e pin hf => kp_look hTW (List.mem_cons_of_mem _ List.mem_cons_self) List.mem_cons_self W' H' e pin hf) ?_)) (et_test (ev_neG (α := Li2 Str Bool) (rα := inferInstance) hK (ev_callU (P := P_toldX) (fun _ _ _ _ h => .inl h) hB (ea_cons (ev_var rfl (ea_cons (ev_var rfl (ea_nil ⟨lim, [], gg, ds, rfl, by decide, .inr ⟨rfl, _, rfl, ev_lst2 (ev_str (ev_bl (neg_in (by decide) hg hg ⟨fun h => absurd h (by simp), fun _ => sxh_next ⟨lim, [], gg, us, fs, _, _, _, _, _, _, _, _, _, hlim0, kj_next hI, rfl, rfl⟩⟩)))⟩⟩))))))))
        | cons k0 kr =>
          rw [← hkk]
          have hk0 : 0 < kk.length := by rw [hkk]; exact Nat.succ_pos _
          have hne : (!kk.isEmpty) = true := by rw [hkk]; rfl
          clear hkk
          refine sxh_if fun Wz hWz => et_not (et_truthL (α := Str) (rα := inferInstance) (congrArg Bs.K (hWz.B.trans hB)) (ev_var rfl ⟨fun h => absurd hne (by simpa using h), fun _ => ?_⟩))
          refine sxh_seqI (fun L' Γ' => ∃ (ds : List (Str × Int)) (kv : List (Key × V)) (o14 : Option G.Ty), ds.length ≤ 1000 ∧ L' = (r, .dK kv) :: [(q, .lst us), (p, .ins (W.B.cl .Keeper) dx fs)] ∧ Γ' = [none, some (T Bx.mk), some (T ws), some (T ss), some (T lim), some (T (Rk.mk (ss.map gauS) fl)), some (T (Oi.mk p .Keeper dx fs (kpB lim kk q us gg))), some (T kk), some (T gg), some (T t), some (T de), some (T wo), some (T pt), some (T (Od.mk r kv ds)), o14, o15, o16, o17]) ?_ ?_
          · refine sxh_forL (α := Str) (rα := inferInstance) hK fun Wo hW => ev_cat (ev_var rfl (ev_rep01 (ev_callR (hW.B.trans hB) (ea_cons (ev_var rfl (ea_cons (ev_var rfl (ea_nil (pc_few ⟨by omega, fun lot hlot => ⟨_, rfl, ev_intB (ev_eqG (α := Int) (rα := inferInstance) (congrArg Bs.K (hW.B.trans hB)) (ev_var rfl (ev_int (eqg_in (by decide) trivial trivial ?_))))⟩⟩)))))))))
            have hlotl := hlot.length_le
            have key : ∀ xs : List Str, xs.Nodup → (∀ m ∈ xs, m ∈ ws) → ∃ I : Nat → OwnH → Gam → Prop, I 0 ((r, .dK kv) :: [(q, .lst us), (p, .ins (W.B.cl .Keeper) dx fs)]) [none, some (T Bx.mk), some (T ws), some (T ss), some (T lim), some (T (Rk.mk (ss.map gauS) fl)), some (T (Oi.mk p .Keeper dx fs (kpB lim kk q us gg))), some (T kk), some (T gg), some (T t), some (T de), some (T wo), some (T pt), some (T (Od.mk r kv ds)), o14, o15, o16, o17] ∧ (∀ i L' Γ', I i L' Γ' → keysH L' = keysH (((r, HO.dK kv) :: [(q, .lst us), (p, .ins (W.B.cl .Keeper) dx fs)] : OwnH))) ∧
                (∀ (j : Nat) (w : Str) L' Γ', xs[j]? = some w → I j L' Γ' → ∀ Wo', OwnHW W L' Wo' → Tg Wo' (gName 14) Γ' w fun Γ1 => SxH W F (tDrop (tDPop1 (tVar 13) (tVar 14))) L' Γ1 { nx := I (j + 1), rt := fun t => t = T true, ct := I (j + 1), bk := fun L' Γ' => ∃ (ds : List (Str × Int)) (kv : List (Key × V)) (o14 : Option G.Ty), ds.length ≤ 1000 ∧ L' = (r, .dK kv) :: [(q, .lst us), (p, .ins (W.B.cl .Keeper) dx fs)] ∧ Γ' = [none, some (T Bx.mk), some (T ws), some (T ss), some (T lim), some (T (Rk.mk (ss.map gauS) fl)), some (T (Oi.mk p .Keeper dx fs (kpB lim kk q us gg))), some (T kk), some (T gg), some (T t), some (T de), some (T wo), some (T pt), some (T (Od.mk r kv ds)), o14, o15, o16, o17] }) ∧
                ∀ L' Γ', I xs.length L' Γ' → ∃ (ds : List (Str × Int)) (kv : List (Key × V)) (o14 : Option G.Ty), ds.length ≤ 1000 ∧ L' = (r, .dK kv) :: [(q, .lst us), (p, .ins (W.B.cl .Keeper) dx fs)] ∧ Γ' = [none, some (T Bx.mk), some (T ws), some (T ss), some (T lim), some (T (Rk.mk (ss.map gauS) fl)), some (T (Oi.mk p .Keeper dx fs (kpB lim kk q us gg))), some (T kk), some (T gg), some (T t), some (T de), some (T wo), some (T pt), some (T (Od.mk r kv ds)), o14, o15, o16, o17] := fun xs hxn hxs => by
              refine ⟨fun j L' Γ' => ∃ (ds : List (Str × Int)) (kv : List (Key × V)) (o14 : Option G.Ty), ds.length ≤ 1000 ∧ (∀ w ∈ ws, w ∉ xs.take j → (getDc ds w).isSome = true) ∧ L' = (r, .dK kv) :: [(q, .lst us), (p, .ins (W.B.cl .Keeper) dx fs)] ∧ Γ' = [none, some (T Bx.mk), some (T ws), some (T ss), some (T lim), some (T (Rk.mk (ss.map gauS) fl)), some (T (Oi.mk p .Keeper dx fs (kpB lim kk q us gg))), some (T kk), some (T gg), some (T t), some (T de), some (T wo), some (T pt), some (T (Od.mk r kv ds)), o14, o15, o16, o17], ⟨ds, kv, _, by omega, fun w hw _ => hdw w hw, rfl, rfl⟩, fun i L' Γ' ⟨_, _, _, _, _, h, _⟩ => by rw [h]; rfl, ?_, fun L' Γ' ⟨ds, kv, o14, h1, _, h2, h3⟩ => ⟨ds, kv, o14, h1, h2, h3⟩⟩
              rintro j w L' Γ' hw ⟨ds, kv, o14, hdl, hda, rfl, rfl⟩ Wo' hW'
              have htk : xs.take (j + 1) = xs.take j ++ [w] := by rw [List.take_succ, hw]; rfl
              have hnt : w ∉ xs.take j := fun z => by
                have : (xs.take j ++ [w]).Nodup := by rw [← htk]; exact hxn.sublist (List.take_sublist _ _)
                exact (List.nodup_append.mp this).2.2 w z w (by simp) rfl
              refine tg_name ?_
              refine sxh_dpop 0 rfl rfl fun Wo hW => ev_var rfl ⟨hda w (hxs w (List.mem_of_getElem? hw)) hnt, fun kv2 => ⟨dropDc ds w, kv2, _, Nat.le_trans (List.length_filter_le _ _) hdl, fun m hm hmt => ?_, rfl, rfl⟩⟩
              rw [htk] at hmt
              rw [getDc_drop, if_neg fun e => hmt (List.mem_append_right _ (by rw [e]; exact List.mem_singleton.mpr rfl))]
              exact hda m hm fun z => hmt (List.mem_append_left _ z)
            by_cases h2 : de = 2
            · refine ⟨by omega, .inr ⟨by rw [decide_eq_true h2]; rfl, by omega, key _ (List.nodup_append.mpr ⟨hI.gnd, hI.nd.sublist hlot, fun a ha b hb e => hI.dis a ha (by rw [e]; exact hlot.subset hb)⟩) fun m hm => (List.mem_append.mp hm).elim (fun h => hI.gsub m h) fun h => hI.sub m (hlot.subset h)⟩⟩
            · refine ⟨by omega, .inl ⟨by rw [decide_eq_false h2]; rfl, by show gg.length + 0 ≤ 100000; omega, key _ (by rw [List.append_nil]; exact hI.gnd) fun m hm => by rw [List.append_nil] at hm; exact hI.gsub m hm⟩⟩
          rintro L' Γ' ⟨ds, kv, o14, hdl, rfl, rfl⟩
          clear hdw hdn hdk hds
          refine sxh_seq (sxh_lookF (β := Str) (rβ := inferInstance) (Γ' := [none, some (T Bx.mk), some (T ws), some (T ss), some (T lim), some (T (Rk.mk (ss.map gauS) fl)), some (T (Oi.mk p .Keeper dx fs (kpB lim kk q us gg))), some (T kk), some (T gg), some (T t), some (T de), some (T wo), some (T pt), some (T (Dc.mk ds)), o14, o15, o16, o17]) (by repeat (first | exact .nil | (refine FrzH.ownD (by simp) ?_) | apply FrzH.same)) (evF_lcF (α := Str) (β := Str) (fun w => !(getDc ds w).isSome) (fun w => w) hK (ev_var rfl ⟨by omega, fun W' sb w hw => ⟨[14], rfl, tj_name (et_test (ev_dnotin (ev_var rfl (ev_var rfl ⟨fun h => ev_var rfl ⟨h, rfl⟩, fun h => h⟩))))⟩, ?_⟩)))
          rw [List.map_id']
          refine sxh_rest (Γ' := [none, some (T Bx.mk), some (T ws), some (T ss), some (T lim), some (T (Rk.mk (ss.map gauS) fl)), some (T (Oi.mk p .Keeper dx fs (kpB lim kk q us gg))), some (T kk), some (T gg), some (T t), some (T de), some (T wo), some (T pt), some (T (Dc.mk ds)), o14, some (T (kk.filter fun w => !(getDc ds w).isSome)), o16, o17]) (by repeat (first | exact .nil | apply RestQ.same | refine RestQ.conv (fun W' H v _ m h d => rest_od W' H v m h d) ?_)) ?_
          rcases first_mis (ks := kk) (ds := ds) with ⟨hm0, hall⟩ | ⟨ix, w, mr, hm0, hix, hnone, hbef⟩
          · rw [hm0]
            refine sxh_seq (sxh_pure fun Wz hWz => sx_set (α := Li2 Str Bool) (rα := inferInstance) (ev_cat11 (ev_cat (ev_lst (el_cons (ev_str (el_nil ⟨by show 1 ≤ 100000; decide, ev_upto (congrArg Bs.K (hWz.B.trans hB)) (ev_var rfl (ev_int ⟨by decide, by show 1 + 0 ≤ 100000; decide, rfl, ev_lst (el_cons (ev_bl (el_nil ⟨by show 1 ≤ 100000; decide, rfl, ?_⟩)))⟩))⟩)))))))
            show SxH W F _ [(q, .lst us), (p, .ins (W.B.cl .Keeper) dx fs)] [none, some (T Bx.mk), some (T ws), some (T ss), some (T lim), some (T (Rk.mk (ss.map gauS) fl)), some (T (Oi.mk p .Keeper dx fs (kpB lim kk q us gg))), some (T kk), some (T gg), some (T t), some (T de), some (T wo), some (T pt), some (T (Dc.mk ds)), o14, some (T ([] : List Str)), some (T (Li2.mk ("missing" : Str) false)), o17] _
            refine sxh_seqI (fun L' Γ' => ∃ (med most : Int) (far : Str), FarR kk ds med most far ∧ L' = [(q, .lst us), (p, .ins (W.B.cl .Keeper) dx fs)] ∧ Γ' = [none, some (T Bx.mk), some (T ws), some (T ss), some (T lim), some (T (Rk.mk (ss.map gauS) fl)), some (T (Oi.mk p .Keeper dx fs (kpB lim kk q us gg))), some (T (if lim < most then kk.filter fun o => decide (o ≠ far) else kk)), some (T (if lim < most then gg ++ [far] else gg)), some (T t), some (T de), some (T wo), some (T pt), some (T (Dc.mk ds)), o14, some (T ([] : List Str)), some (T med), some (T (T3.mk far most med))]) ?_ ?_
            · refine sxh_if fun Wz hWz => et_not (et_truthL (α := Str) (rα := inferInstance) (congrArg Bs.K (hWz.B.trans hB)) (ev_var rfl ⟨fun _ => ?_, fun h => (nomatch h)⟩))
              refine sxh_seq (sxh_pure fun Wz hWz => sx_set (α := T3 Str Int Int) (rα := inferInstance) (ev_callR (hWz.B.trans hB) (ea_cons (ev_var rfl (ea_cons (ev_var rfl (ea_nil (pc_farthest ⟨hk0, by omega, hall, fun med most far hf => ⟨_, rfl, ?_⟩⟩))))))))
              refine sxh_seq (sxh_pure fun Wz hWz => sx_set (α := Int) (rα := inferInstance) (ev_ixT3c (congrArg Bs.K (hWz.B.trans hB)) (ev_var rfl ?_)))
              refine sxh_if fun Wz hWz => et_test (ev_opB (ev_ixT3b (congrArg Bs.K (hWz.B.trans hB)) (ev_var rfl (ev_var rfl ⟨fun h => ?_, fun h => ?_⟩))))
              · have h : lim < most := of_decide_eq_true h
                refine sxh_seq (sxh_pure fun Wz hWz => sx_set (α := List Str) (rα := inferInstance) (EvF.k (evF_lcF (α := Str) (β := Str) (fun o => decide (o ≠ far)) (fun o => o) (congrArg Bs.K (hWz.B.trans hB)) (ev_var rfl ⟨by omega, fun W' sb w hw => ⟨[14], rfl, tj_name (et_test (ev_neG (α := Str) (rα := inferInstance) (congrArg Bs.K (sb.B.trans (hWz.B.trans hB))) (ev_var rfl (ev_ixT3a (congrArg Bs.K (sb.B.trans (hWz.B.trans hB))) (ev_var rfl (neg_in (by decide) (hwok w (hI.sub w hw)) (hwok far (hI.sub far hf.hmem)) ⟨fun h => ev_var rfl ⟨by simpa using h, rfl⟩, fun h => by simpa using h⟩))))))⟩, ?_⟩))))
                rw [List.map_id']
                refine sxh_pure fun Wz hWz => sx_set (α := List Str) (rα := inferInstance) (ev_cat (ev_var rfl (ev_lst (el_cons (ev_ixT3a (congrArg Bs.K (hWz.B.trans hB)) (ev_var rfl (el_nil ⟨by show 1 ≤ 100000; decide, by show gg.length + 1 ≤ 100000; omega, med, most, far, hf, rfl, ?_⟩)))))))
                rw [if_pos h, if_pos h]
                rfl
              · have h : ¬ lim < most := of_decide_eq_false h
                refine sxh_next ⟨med, most, far, hf, rfl, ?_⟩
                rw [if_neg h, if_neg h]
                rfl
            rintro L' Γ' ⟨med, most, far, hf, rfl, rfl⟩
            refine sxh_ifM (etm_neI hK (evm_callU (cs := kpC) (P := P_Keeper_take K A) (M := []) (c := .Keeper) (fun _ _ _ _ h => .inr h) rfl rfl hB fun Wo hW => ea_cons (ev_var rfl (ea_nil ⟨lim, kk, q, us, gg, ds, rfl, rfl, rfl, kpT tx, hk0, by omega, fun m hm => hwok m (hI.sub m hm), by omega, hall, fun med3 most3 far3 hf3 => ?_⟩))))
            obtain ⟨e1, e2, e3⟩ := farR_uniq hf3 hf
            subst e1 e2 e3
            refine ⟨fun hle fs' => ⟨med3, rfl, fun Wy hWy => ev_var rfl ⟨fun h => absurd h (by simp), fun _ => sxh_next ?_⟩⟩, fun hlt us' fs' => ⟨med3, rfl, fun Wy hWy => ev_var rfl ⟨fun h => absurd h (by simp), fun _ => sxh_next ?_⟩⟩⟩
            · rw [if_neg (Int.not_lt.mpr hle), if_neg (Int.not_lt.mpr hle)]
              exact ⟨lim, kk, gg, us, fs', _, _, _, _, _, _, _, _, _, hlim0, kj_next hI, rfl, rfl⟩
            · rw [if_pos hlt, if_pos hlt]
              exact ⟨lim, _, _, us', fs', _, _, _, _, _, _, _, _, _, hlim0, kj_drop hI hf.hmem, rfl, rfl⟩
          · rw [hm0]
            have hmrl : (w :: mr).length ≤ kk.length := by rw [← hm0]; exact List.length_filter_le _ _
            refine sxh_seq (sxh_pure fun Wz hWz => sx_set (α := Li3 Str Str Bool) (rα := inferInstance) (ev_cat21 (ev_cat (ev_lst (el_cons (ev_str (el_nil ⟨by show 1 ≤ 100000; decide, ev_upto (congrArg Bs.K (hWz.B.trans hB)) (ev_var rfl (ev_int ⟨by decide, by show 1 + 1 ≤ 100000; decide, rfl, ev_lst (el_cons (ev_bl (el_nil ⟨by show 1 ≤ 100000; decide, rfl, ?_⟩)))⟩))⟩)))))))
            show SxH W F _ [(q, .lst us), (p, .ins (W.B.cl .Keeper) dx fs)] [none, some (T Bx.mk), some (T ws), some (T ss), some (T lim), some (T (Rk.mk (ss.map gauS) fl)), some (T (Oi.mk p .Keeper dx fs (kpB lim kk q us gg))), some (T kk), some (T gg), some (T t), some (T de), some (T wo), some (T pt), some (T (Dc.mk ds)), o14, some (T (w :: mr)), some (T (Li3.mk ("missing" : Str) w false)), o17] _
            refine sxh_seqI (fun L' Γ' => L' = [(q, .lst us), (p, .ins (W.B.cl .Keeper) dx fs)] ∧ Γ' = [none, some (T Bx.mk), some (T ws), some (T ss), some (T lim), some (T (Rk.mk (ss.map gauS) fl)), some (T (Oi.mk p .Keeper dx fs (kpB lim kk q us gg))), some (T kk), some (T gg), some (T t), some (T de), some (T wo), some (T pt), some (T (Dc.mk ds)), o14, some (T (w :: mr)), some (T (Li3.mk ("missing" : Str) w false)), o17]) ?_ ?_
            · exact sxh_if fun Wz hWz => et_not (et_truthL (α := Str) (rα := inferInstance) (congrArg Bs.K (hWz.B.trans hB)) (ev_var rfl ⟨fun h => (nomatch h), fun _ => sxh_next ⟨rfl, rfl⟩⟩))
            rintro L' Γ' ⟨rfl, rfl⟩
            have hgw : GoodW w := hwg w (hI.sub w (List.mem_of_getElem? hix))
            have hg : Dat.good (Li3.mk ("missing" : Str) w false) := ⟨strOk_of _, goodW_ok hgw, trivial⟩
            exact sxh_lookIf (Γ' := [none, some (T Bx.mk), some (T ws), some (T ss), some (T lim), some (T (Rk.mk (ss.map gauS) fl)), some (T (Kd.mk lim kk gg)), some (T kk), some (T gg), some (T t), some (T de), some (T wo), some (T pt), some (T (Dc.mk ds)), o14, some (T (w :: mr)), some (T (Li3.mk ("missing" : Str) w false)), o17]) (by repeat (first | exact .nil | apply FrzH.same | refine FrzH.ownJ (fun W' H' e pin hf => kp_look hTW (List.mem_cons_of_mem _ List.mem_cons_self) List.mem_cons_self W' H' e pin hf) ?_)) (et_test (ev_neG (α := Li3 Str Str Bool) (rα := inferInstance) hK (ev_callU (P := P_toldX) (fun _ _ _ _ h => .inl h) hB (ea_cons (ev_var rfl (ea_cons (ev_var rfl (ea_nil ⟨lim, kk, gg, ds, rfl, by omega, .inl ⟨ix, w, hix, hnone, hbef, (repr_good hgw).1, (repr_good hgw).2, _, rfl, ev_var rfl (neg_in (by decide) hg hg ⟨fun h => absurd h (by simp), fun _ => sxh_next ⟨lim, kk, gg, us, fs, _, _, _, _, _, _, _, _, _, hlim0, kj_next hI, rfl, rfl⟩⟩)⟩⟩))))))))
      rintro L' Γ' ⟨lim, kk, gg, us, fs, o9, o10, o11, o12, o13, o14, o15, o16, o17, hlim0, hI, rfl, rfl⟩
      have hkg : ∀ m ∈ kk, PyData.strOk m = true := fun m hm => hwok m (hI.sub m hm)
      have hgg : ∀ m ∈ gg, PyData.strOk m = true := fun m hm => hwok m (hI.gsub m hm)
      have hgle2 := hI.gle
      have hkle2 := hI.le
      refine sxh_lookIf (Γ' := [none, some (T Bx.mk), some (T ws), some (T ss), some (T lim), some (T (Rk.mk (ss.map gauS) fl)), some (T (Kd.mk lim kk gg)), some (T kk), some (T gg), o9, o10, o11, o12, o13, o14, o15, o16, o17]) (by repeat (first | exact .nil | apply FrzH.same | refine FrzH.ownJ (fun W' H' e pin hf => kp_look hTW (List.mem_cons_of_mem _ List.mem_cons_self) List.mem_cons_self W' H' e pin hf) ?_)) (et_or (et_test (ev_neG (α := Int) (rα := inferInstance) hK (ev_propZ (α := Int) (β := Kd) (rα := inferInstance) (rβ := inferInstance) hB (ev_var rfl (own_in rfl (pc_Keeper_limit ⟨_, rfl, ev_var rfl (neg_in (by decide) trivial trivial ⟨fun h => absurd h (by simp), fun _ => ?_⟩)⟩)))))))
      refine et_or (et_test (ev_neG (α := List Str) (rα := inferInstance) hK (EvF.k (evF_methFr (α := Kd) hB (ev_var rfl (ownM_in rfl (by decide +kernel) (ea_nil ⟨lim, kk, gg, rfl, ev_var rfl (neg_in (by decide) hkg hkg ⟨fun h => absurd h (by simp), fun _ => ?_⟩)⟩)))))))
      exact et_test (ev_neG (α := List Str) (rα := inferInstance) hK (EvF.k (evF_methFr (α := Kd) hB (ev_var rfl (ownM_in rfl (by decide +kernel) (ea_nil ⟨lim, kk, gg, rfl, ev_var rfl (neg_in (by decide) hgg hgg ⟨fun h => absurd h (by simp), fun _ => sxh_next ⟨lim, kk, gg, us, fs, _, _, _, _, _, _, _, _, _, hlim0, hI, rfl, rfl⟩⟩)⟩))))))
    rintro L' Γ' ⟨lim, kk, gg, us, fs, o9, o10, o11, o12, o13, o14, o15, o16, o17, _, _, rfl, rfl⟩
    exact sxh_pure fun Wz hWz => sx_ret (α := Bool) (rα := inferInstance) (ev_bl rfl)
end
theorem all_mk {l : PySem.W.OpenLaw} {w : World} {K : PySem.W.Frag} {h : Heap} {mg : Str → Option Value} {fa C_GaugeError C_NoLevel C_Apart C_BadLiars C_BadGauge C_DuplicateGauge C_UnknownGauge C_MissingReading C_BadLimit C_Keeper C_Gauge C_CoarseGauge C_LateGauge C_LateCoarseGauge C_Rack f1 f2 f3 f4 f5 f6 f7 f8 f9 f10 f11 f12 f13 f14 f15 f16 f17 f18 f19 f20 f21 f22 f23 f24 f25 f26 f27 f28 f29 f30 f31 f32 f33 f34 f35 f36 f37 f38 f39 f40 f41 f42 f43 f44 f45 f46 f47 f48 f49 f50 f51 k_BARRED k_em_Rack_init k_em_Rack_of : Addr} (X : K.In h) (G : h.Ns mainGlobals mg) (hfa : mg "law" = some (.ref fa))
    {od1 an1 : Option Addr} {sl1 : Array (Option Value)} {oc1 kV1 dc1 pm1 cd1 ct1 : Value} {od2 an2 : Option Addr} {sl2 : Array (Option Value)} {oc2 kV2 dc2 pm2 cd2 ct2 : Value} {od3 an3 : Option Addr} {sl3 : Array (Option Value)} {oc3 kV3 dc3 pm3 cd3 ct3 : Value} {od4 an4 : Option Addr} {sl4 : Array (Option Value)} {oc4 kV4 dc4 pm4 cd4 ct4 : Value} {od5 an5 : Option Addr} {sl5 : Array (Option Value)} {oc5 kV5 dc5 pm5 cd5 ct5 : Value} {od6 an6 : Option Addr} {sl6 : Array (Option Value)} {oc6 kV6 dc6 pm6 cd6 ct6 : Value} {od7 an7 : Option Addr} {sl7 : Array (Option Value)} {oc7 kV7 dc7 pm7 cd7 ct7 : Value} {od8 an8 : Option Addr} {sl8 : Array (Option Value)} {oc8 dc8 pm8 cd8 ct8 : Value} {od9 an9 : Option Addr} {sl9 : Array (Option Value)} {oc9 dc9 pm9 cd9 ct9 : Value} {od10 an10 : Option Addr} {sl10 : Array (Option Value)} {oc10 dc10 pm10 cd10 ct10 : Value} {od11 an11 : Option Addr} {sl11 : Array (Option Value)} {oc11 kV11 dc11 pm11 cd11 ct11 : Value} {od12 an12 : Option Addr} {sl12 : Array (Option Value)} {oc12 kV12 dc12 pm12 cd12 ct12 : Value} {od13 an13 : Option Addr} {sl13 : Array (Option Value)} {oc13 kV13 dc13 pm13 cd13 ct13 : Value} {od14 an14 : Option Addr} {sl14 : Array (Option Value)} {oc14 kV14 dc14 pm14 cd14 ct14 : Value} {od15 an15 : Option Addr} {sl15 : Array (Option Value)} {oc15 kV15 dc15 pm15 cd15 ct15 : Value} {od16 an16 : Option Addr} {sl16 : Array (Option Value)} {oc16 kV16 dc16 pm16 cd16 ct16 : Value} {od17 an17 : Option Addr} {sl17 : Array (Option Value)} {oc17 kV17 dc17 pm17 ct17 : Value} {od18 an18 : Option Addr} {sl18 : Array (Option Value)} {oc18 kV18 dc18 pm18 ct18 : Value} {od19 an19 : Option Addr} {sl19 : Array (Option Value)} {oc19 kV19 dc19 pm19 ct19 : Value} {od20 an20 : Option Addr} {sl20 : Array (Option Value)} {oc20 kV20 dc20 pm20 cd20 ct20 : Value} {od21 an21 : Option Addr} {sl21 : Array (Option Value)} {oc21 kV21 dc21 pm21 cd21 ct21 : Value} {od22 an22 : Option Addr} {sl22 : Array (Option Value)} {oc22 kV22 dc22 pm22 cd22 ct22 : Value} {od23 an23 : Option Addr} {sl23 : Array (Option Value)} {oc23 kV23 dc23 pm23 cd23 ct23 : Value} {od24 an24 : Option Addr} {sl24 : Array (Option Value)} {oc24 kV24 dc24 pm24 cd24 ct24 : Value} {od25 an25 : Option Addr} {sl25 : Array (Option Value)} {oc25 kV25 dc25 pm25 cd25 ct25 : Value} {od26 an26 : Option Addr} {sl26 : Array (Option Value)} {oc26 kV26 dc26 pm26 cd26 ct26 : Value} {od27 an27 : Option Addr} {sl27 : Array (Option Value)} {oc27 kV27 dc27 pm27 cd27 ct27 : Value} {od28 an28 : Option Addr} {sl28 : Array (Option Value)} {oc28 dc28 pm28 cd28 ct28 : Value} {od29 an29 : Option Addr} {sl29 : Array (Option Value)} {oc29 kV29 dc29 pm29 cd29 ct29 : Value} {od30 an30 : Option Addr} {sl30 : Array (Option Value)} {oc30 kV30 dc30 pm30 cd30 ct30 : Value} {od31 an31 : Option Addr} {sl31 : Array (Option Value)} {oc31 kV31 dc31 pm31 cd31 ct31 : Value} {od32 an32 : Option Addr} {sl32 : Array (Option Value)} {oc32 kV32 dc32 pm32 cd32 ct32 : Value} {od33 an33 : Option Addr} {sl33 : Array (Option Value)} {oc33 kV33 dc33 pm33 cd33 ct33 : Value} {od34 an34 : Option Addr} {sl34 : Array (Option Value)} {oc34 kV34 dc34 pm34 cd34 ct34 : Value} {od35 an35 : Option Addr} {sl35 : Array (Option Value)} {oc35 kV35 dc35 pm35 cd35 ct35 : Value} {od36 an36 : Option Addr} {sl36 : Array (Option Value)} {oc36 kV36 dc36 pm36 cd36 ct36 : Value} {od37 an37 : Option Addr} {sl37 : Array (Option Value)} {oc37 kV37 dc37 pm37 cd37 ct37 : Value} {od38 an38 : Option Addr} {sl38 : Array (Option Value)} {oc38 kV38 dc38 pm38 cd38 ct38 : Value} {od39 an39 : Option Addr} {sl39 : Array (Option Value)} {oc39 kV39 dc39 pm39 cd39 ct39 : Value} {od40 an40 : Option Addr} {sl40 : Array (Option Value)} {oc40 kV40 dc40 pm40 cd40 ct40 : Value} {od41 an41 : Option Addr} {sl41 : Array (Option Value)} {oc41 kV41 dc41 pm41 cd41 ct41 : Value} {od42 an42 : Option Addr} {sl42 : Array (Option Value)} {oc42 kV42 dc42 pm42 cd42 ct42 : Value} {od43 an43 : Option Addr} {sl43 : Array (Option Value)} {oc43 kV43 dc43 pm43 cd43 ct43 : Value} {od44 an44 : Option Addr} {sl44 : Array (Option Value)} {oc44 kV44 dc44 pm44 cd44 ct44 : Value} {od45 an45 : Option Addr} {sl45 : Array (Option Value)} {oc45 kV45 dc45 pm45 cd45 ct45 : Value} {od46 an46 : Option Addr} {sl46 : Array (Option Value)} {oc46 kV46 dc46 pm46 cd46 ct46 : Value} {od47 an47 : Option Addr} {sl47 : Array (Option Value)} {oc47 kV47 dc47 pm47 cd47 ct47 : Value} {od48 an48 : Option Addr} {sl48 : Array (Option Value)} {oc48 kV48 dc48 pm48 cd48 ct48 : Value} {od49 an49 : Option Addr} {sl49 : Array (Option Value)} {oc49 kV49 dc49 pm49 cd49 ct49 : Value} {od50 an50 : Option Addr} {sl50 : Array (Option Value)} {oc50 kV50 dc50 pm50 cd50 ct50 : Value} {od51 an51 : Option Addr} {sl51 : Array (Option Value)} {oc51 kV51 dc51 pm51 cd51 ct51 : Value} {nmNoLevel qNoLevel : Str} {NNoLevel : Addr} {bsNoLevel : List Value} {snNoLevel : List Str} {subNoLevel : List Value} {abNoLevel : Bool} {colNoLevel : Option Bool} {ddNoLevel : Option Addr} {m0NoLevel m1NoLevel m2NoLevel m3NoLevel m5NoLevel : Option Value} {nmApart qApart : Str} {NApart : Addr} {bsApart : List Value} {snApart : List Str} {subApart : List Value} {abApart : Bool} {colApart : Option Bool} {ddApart : Option Addr} {m0Apart m1Apart m2Apart m3Apart m5Apart : Option Value} {nmBadLiars qBadLiars : Str} {NBadLiars : Addr} {bsBadLiars : List Value} {snBadLiars : List Str} {subBadLiars : List Value} {abBadLiars : Bool} {colBadLiars : Option Bool} {ddBadLiars : Option Addr} {m0BadLiars m1BadLiars m2BadLiars m3BadLiars m5BadLiars : Option Value} {nmBadGauge qBadGauge : Str} {NBadGauge : Addr} {bsBadGauge : List Value} {snBadGauge : List Str} {subBadGauge : List Value} {abBadGauge : Bool} {colBadGauge : Option Bool} {ddBadGauge : Option Addr} {m0BadGauge m1BadGauge m2BadGauge m3BadGauge m5BadGauge : Option Value} {nmDuplicateGauge qDuplicateGauge : Str} {NDuplicateGauge : Addr} {bsDuplicateGauge : List Value} {snDuplicateGauge : List Str} {subDuplicateGauge : List Value} {abDuplicateGauge : Bool} {colDuplicateGauge : Option Bool} {ddDuplicateGauge : Option Addr} {m0DuplicateGauge m1DuplicateGauge m2DuplicateGauge m3DuplicateGauge m5DuplicateGauge : Option Value} {nmUnknownGauge qUnknownGauge : Str} {NUnknownGauge : Addr} {bsUnknownGauge : List Value} {snUnknownGauge : List Str} {subUnknownGauge : List Value} {abUnknownGauge : Bool} {colUnknownGauge : Option Bool} {ddUnknownGauge : Option Addr} {m0UnknownGauge m1UnknownGauge m2UnknownGauge m3UnknownGauge m5UnknownGauge : Option Value} {nmMissingReading qMissingReading : Str} {NMissingReading : Addr} {bsMissingReading : List Value} {snMissingReading : List Str} {subMissingReading : List Value} {abMissingReading : Bool} {colMissingReading : Option Bool} {ddMissingReading : Option Addr} {m0MissingReading m1MissingReading m2MissingReading m3MissingReading m5MissingReading : Option Value} {nmBadLimit qBadLimit : Str} {NBadLimit : Addr} {bsBadLimit : List Value} {snBadLimit : List Str} {subBadLimit : List Value} {abBadLimit : Bool} {colBadLimit : Option Bool} {ddBadLimit : Option Addr} {m0BadLimit m1BadLimit m2BadLimit m3BadLimit m5BadLimit : Option Value} {p29 : Addr} {rs29 : List Value} {p40 : Addr} {rs40 : List Value} {p41 : Addr} {rs41 : List Value} {okBARRED : Option Addr} {nkBARRED : Nat} {skBARRED : Array (Option Value)} {tkBARRED0 tkBARRED1 tkBARRED2 tkBARRED3 : Tok} {tkLETTERS : Tok} {tk_Gauge_LONGEST : Tok} {cda17 cc17 : Addr} {ccl17 cl17 : Value} {cdd17 cld17 : Option Addr} {vs17 : Array Value} {ccs17 csl17 : Array (Option Value)} {tf17 : Tok} {cdD17 : ClassData} {cda18 cc18 : Addr} {ccl18 cl18 : Value} {cdd18 cld18 : Option Addr} {vs18 : Array Value} {ccs18 csl18 : Array (Option Value)} {tf18 : Tok} {cdD18 : ClassData} {cda19 cc19 : Addr} {ccl19 cl19 : Value} {cdd19 cld19 : Option Addr} {vs19 : Array Value} {ccs19 csl19 : Array (Option Value)} {tf19 : Tok} {cdD19 : ClassData} {kd28 : Addr} {oem28 : Option Addr} {nem28 : Nat} {sem28 : Array (Option Value)} {kd29 : Addr} {okd29 oem29 : Option Addr} {nkd29 nem29 : Nat} {skd29 sem29 : Array (Option Value)} {ra41 : Value}
    (aC_GaugeError : PySem.W.nsIn K mainGlobals "GaugeError" = some (some (.ref C_GaugeError)))
    (aC_NoLevel : PySem.W.nsIn K mainGlobals "NoLevel" = some (some (.ref C_NoLevel)))
    (aC_Apart : PySem.W.nsIn K mainGlobals "Apart" = some (some (.ref C_Apart)))
    (aC_BadLiars : PySem.W.nsIn K mainGlobals "BadLiars" = some (some (.ref C_BadLiars)))
    (aC_BadGauge : PySem.W.nsIn K mainGlobals "BadGauge" = some (some (.ref C_BadGauge)))
    (aC_DuplicateGauge : PySem.W.nsIn K mainGlobals "DuplicateGauge" = some (some (.ref C_DuplicateGauge)))
    (aC_UnknownGauge : PySem.W.nsIn K mainGlobals "UnknownGauge" = some (some (.ref C_UnknownGauge)))
    (aC_MissingReading : PySem.W.nsIn K mainGlobals "MissingReading" = some (some (.ref C_MissingReading)))
    (aC_BadLimit : PySem.W.nsIn K mainGlobals "BadLimit" = some (some (.ref C_BadLimit)))
    (aC_Keeper : PySem.W.nsIn K mainGlobals "Keeper" = some (some (.ref C_Keeper)))
    (aC_Gauge : PySem.W.nsIn K mainGlobals "Gauge" = some (some (.ref C_Gauge)))
    (aC_CoarseGauge : PySem.W.nsIn K mainGlobals "CoarseGauge" = some (some (.ref C_CoarseGauge)))
    (aC_LateGauge : PySem.W.nsIn K mainGlobals "LateGauge" = some (some (.ref C_LateGauge)))
    (aC_LateCoarseGauge : PySem.W.nsIn K mainGlobals "LateCoarseGauge" = some (some (.ref C_LateCoarseGauge)))
    (aC_Rack : PySem.W.nsIn K mainGlobals "Rack" = some (some (.ref C_Rack)))
    (a1 : PySem.W.nsIn K mainGlobals "_law_take" = some (some (.ref f1)))
    (l1 : K.lookup f1 = some ⟨oc1, od1, .func (PySem.W.fnOf "_law_take" "_law_take" (defArgs s_take) (defBody s_take) (defScope s_take) .none kV1 dc1 pm1 an1 cd1 ct1), sl1⟩)
    (c1 : PySem.W.codeIn K cd1 "_law_take" = true)
    (k1 : PySem.W.keepIn K (.ref f1) = true)
    (a2 : PySem.W.nsIn K mainGlobals "_law_box" = some (some (.ref f2)))
    (l2 : K.lookup f2 = some ⟨oc2, od2, .func (PySem.W.fnOf "_law_box" "_law_box" (defArgs s_box) (defBody s_box) (defScope s_box) .none kV2 dc2 pm2 an2 cd2 ct2), sl2⟩)
    (c2 : PySem.W.codeIn K cd2 "_law_box" = true)
    (k2 : PySem.W.keepIn K (.ref f2) = true)
    (a3 : PySem.W.nsIn K mainGlobals "_law_word" = some (some (.ref f3)))
    (l3 : K.lookup f3 = some ⟨oc3, od3, .func (PySem.W.fnOf "_law_word" "_law_word" (defArgs s_word) (defBody s_word) (defScope s_word) .none kV3 dc3 pm3 an3 cd3 ct3), sl3⟩)
    (c3 : PySem.W.codeIn K cd3 "_law_word" = true)
    (k3 : PySem.W.keepIn K (.ref f3) = true)
    (a4 : PySem.W.nsIn K mainGlobals "_law_words" = some (some (.ref f4)))
    (l4 : K.lookup f4 = some ⟨oc4, od4, .func (PySem.W.fnOf "_law_words" "_law_words" (defArgs s_words) (defBody s_words) (defScope s_words) .none kV4 dc4 pm4 an4 cd4 ct4), sl4⟩)
    (c4 : PySem.W.codeIn K cd4 "_law_words" = true)
    (k4 : PySem.W.keepIn K (.ref f4) = true)
    (a5 : PySem.W.nsIn K mainGlobals "is_gauge_name" = some (some (.ref f5)))
    (l5 : K.lookup f5 = some ⟨oc5, od5, .func (PySem.W.fnOf "is_gauge_name" "is_gauge_name" (defArgs s_m_is_gauge_name) (defBody s_m_is_gauge_name) (defScope s_m_is_gauge_name) .none kV5 dc5 pm5 an5 cd5 ct5), sl5⟩)
    (c5 : PySem.W.codeIn K cd5 "is_gauge_name" = true)
    (k5 : PySem.W.keepIn K (.ref f5) = true)
    (a6 : PySem.W.findIn K (.ref C_BadGauge) "__init__" = some (some (.ref f6)))
    (i6 : PySem.W.isFn K (.ref f6) = true)
    (l6 : K.lookup f6 = some ⟨oc6, od6, .func (PySem.W.fnOf "__init__" "BadGauge.__init__" (defArgs s_BadGauge_init) (defBody s_BadGauge_init) (defScope s_BadGauge_init) .none kV6 dc6 pm6 an6 cd6 ct6), sl6⟩)
    (c6 : PySem.W.codeIn K cd6 "BadGauge.__init__" = true)
    (k6 : PySem.W.keepIn K (.ref f6) = true)
    (ty_BadGauge : PySem.W.typeIn K (.ref f6) = some (.type "function"))
    (a7 : PySem.W.findIn K (.ref C_Gauge) "__init__" = some (some (.ref f7)))
    (i7 : PySem.W.isFn K (.ref f7) = true)
    (l7 : K.lookup f7 = some ⟨oc7, od7, .func (PySem.W.fnOf "__init__" "Gauge.__init__" (defArgs s_Gauge_init) (defBody s_Gauge_init) (defScope s_Gauge_init) .none kV7 dc7 pm7 an7 cd7 ct7), sl7⟩)
    (c7 : PySem.W.codeIn K cd7 "Gauge.__init__" = true)
    (k7 : PySem.W.keepIn K (.ref f7) = true)
    (mk_Gauge : PySem.W.makesIn K C_Gauge = true)
    (kc_Gauge : PySem.W.keepIn K (.ref C_Gauge) = true)
    (a8 : PySem.W.findIn K (.ref C_CoarseGauge) "__init__" = some (some (.ref f8)))
    (i8 : PySem.W.isFn K (.ref f8) = true)
    (l8 : K.lookup f8 = some ⟨oc8, od8, .func (PySem.W.fnOf "__init__" "CoarseGauge.__init__" (defArgs s_CoarseGauge_init) (defBody s_CoarseGauge_init) (defScope s_CoarseGauge_init) .none .none dc8 pm8 an8 cd8 ct8), sl8⟩)
    (c8 : PySem.W.codeIn K cd8 "CoarseGauge.__init__" = true)
    (k8 : PySem.W.keepIn K (.ref f8) = true)
    (mk_CoarseGauge : PySem.W.makesIn K C_CoarseGauge = true)
    (kc_CoarseGauge : PySem.W.keepIn K (.ref C_CoarseGauge) = true)
    (a9 : PySem.W.findIn K (.ref C_LateGauge) "__init__" = some (some (.ref f9)))
    (i9 : PySem.W.isFn K (.ref f9) = true)
    (l9 : K.lookup f9 = some ⟨oc9, od9, .func (PySem.W.fnOf "__init__" "LateGauge.__init__" (defArgs s_LateGauge_init) (defBody s_LateGauge_init) (defScope s_LateGauge_init) .none .none dc9 pm9 an9 cd9 ct9), sl9⟩)
    (c9 : PySem.W.codeIn K cd9 "LateGauge.__init__" = true)
    (k9 : PySem.W.keepIn K (.ref f9) = true)
    (mk_LateGauge : PySem.W.makesIn K C_LateGauge = true)
    (kc_LateGauge : PySem.W.keepIn K (.ref C_LateGauge) = true)
    (a10 : PySem.W.findIn K (.ref C_LateCoarseGauge) "__init__" = some (some (.ref f10)))
    (i10 : PySem.W.isFn K (.ref f10) = true)
    (l10 : K.lookup f10 = some ⟨oc10, od10, .func (PySem.W.fnOf "__init__" "LateCoarseGauge.__init__" (defArgs s_LateCoarseGauge_init) (defBody s_LateCoarseGauge_init) (defScope s_LateCoarseGauge_init) .none .none dc10 pm10 an10 cd10 ct10), sl10⟩)
    (c10 : PySem.W.codeIn K cd10 "LateCoarseGauge.__init__" = true)
    (k10 : PySem.W.keepIn K (.ref f10) = true)
    (mk_LateCoarseGauge : PySem.W.makesIn K C_LateCoarseGauge = true)
    (kc_LateCoarseGauge : PySem.W.keepIn K (.ref C_LateCoarseGauge) = true)
    (a11 : PySem.W.nsIn K mainGlobals "_law_specs" = some (some (.ref f11)))
    (l11 : K.lookup f11 = some ⟨oc11, od11, .func (PySem.W.fnOf "_law_specs" "_law_specs" (defArgs s_specs) (defBody s_specs) (defScope s_specs) .none kV11 dc11 pm11 an11 cd11 ct11), sl11⟩)
    (c11 : PySem.W.codeIn K cd11 "_law_specs" = true)
    (k11 : PySem.W.keepIn K (.ref f11) = true)
    (a12 : PySem.W.nsIn K mainGlobals "_law_gauge" = some (some (.ref f12)))
    (l12 : K.lookup f12 = some ⟨oc12, od12, .func (PySem.W.fnOf "_law_gauge" "_law_gauge" (defArgs s_gauge) (defBody s_gauge) (defScope s_gauge) .none kV12 dc12 pm12 an12 cd12 ct12), sl12⟩)
    (c12 : PySem.W.codeIn K cd12 "_law_gauge" = true)
    (k12 : PySem.W.keepIn K (.ref f12) = true)
    (a13 : PySem.W.nsIn K mainGlobals "_law_gauges" = some (some (.ref f13)))
    (l13 : K.lookup f13 = some ⟨oc13, od13, .func (PySem.W.fnOf "_law_gauges" "_law_gauges" (defArgs s_gauges) (defBody s_gauges) (defScope s_gauges) .none kV13 dc13 pm13 an13 cd13 ct13), sl13⟩)
    (c13 : PySem.W.codeIn K cd13 "_law_gauges" = true)
    (k13 : PySem.W.keepIn K (.ref f13) = true)
    (a14 : PySem.W.nsIn K mainGlobals "_law_slacks" = some (some (.ref f14)))
    (l14 : K.lookup f14 = some ⟨oc14, od14, .func (PySem.W.fnOf "_law_slacks" "_law_slacks" (defArgs s_slacks) (defBody s_slacks) (defScope s_slacks) .none kV14 dc14 pm14 an14 cd14 ct14), sl14⟩)
    (c14 : PySem.W.codeIn K cd14 "_law_slacks" = true)
    (k14 : PySem.W.keepIn K (.ref f14) = true)
    (a15 : PySem.W.findIn K (.ref C_Gauge) "slack_below" = some (some (.ref f15)))
    (i15 : PySem.W.isFn K (.ref f15) = true)
    (l15 : K.lookup f15 = some ⟨oc15, od15, .func (PySem.W.fnOf "slack_below" "Gauge.slack_below" (defArgs s_Gauge_slack_below) (defBody s_Gauge_slack_below) (defScope s_Gauge_slack_below) .none kV15 dc15 pm15 an15 cd15 ct15), sl15⟩)
    (c15 : PySem.W.codeIn K cd15 "Gauge.slack_below" = true)
    (k15 : PySem.W.keepIn K (.ref f15) = true)
    (a16 : PySem.W.findIn K (.ref C_Gauge) "slack_above" = some (some (.ref f16)))
    (i16 : PySem.W.isFn K (.ref f16) = true)
    (l16 : K.lookup f16 = some ⟨oc16, od16, .func (PySem.W.fnOf "slack_above" "Gauge.slack_above" (defArgs s_Gauge_slack_above) (defBody s_Gauge_slack_above) (defScope s_Gauge_slack_above) .none kV16 dc16 pm16 an16 cd16 ct16), sl16⟩)
    (c16 : PySem.W.codeIn K cd16 "Gauge.slack_above" = true)
    (k16 : PySem.W.keepIn K (.ref f16) = true)
    (a17 : PySem.W.findIn K (.ref C_CoarseGauge) "slack_above" = some (some (.ref f17)))
    (i17 : PySem.W.isFn K (.ref f17) = true)
    (l17 : K.lookup f17 = some ⟨oc17, od17, .func (PySem.W.ksFn "slack_above" "CoarseGauge.slack_above" (defArgs s_CoarseGauge_slack_above) (defBody s_CoarseGauge_slack_above) (defScope s_CoarseGauge_slack_above) .none kV17 dc17 pm17 an17 (.ref cda17) ct17 cc17), sl17⟩)
    (c17 : PySem.W.codeIn K (.ref cda17) "CoarseGauge.slack_above" = true)
    (k17 : PySem.W.keepIn K (.ref f17) = true)
    (sr17 : K.lookup cda17 = some ⟨ccl17, cdd17, .fields vs17, ccs17⟩)
    (xn_f17 : vs17[2]? = some (.str (Str.ofString "/claim/cut.py") tf17))
    (sc17 : K.lookup cc17 = some ⟨cl17, cld17, .cell (some (.ref C_CoarseGauge)), csl17⟩)
    (sd17 : PySem.W.clsIn K C_CoarseGauge = some cdD17)
    (sany : PySem.W.nsIn K cStatics "thirdparty.any" = some none)
    (ss17_CoarseGauge : PySem.W.mroIn K C_CoarseGauge (.ref C_CoarseGauge) = some true)
    (st17_CoarseGauge : PySem.W.ks_superIn K C_CoarseGauge C_CoarseGauge "slack_above" = some (some (.ref f16)))
    (sty16 : PySem.W.typeIn K (.ref f16) = some (.type "function"))
    (sfi16 : PySem.W.fnIn K f16 = true)
    (ss17_LateCoarseGauge : PySem.W.mroIn K C_LateCoarseGauge (.ref C_CoarseGauge) = some true)
    (st17_LateCoarseGauge : PySem.W.ks_superIn K C_LateCoarseGauge C_CoarseGauge "slack_above" = some (some (.ref f16)))
    (a18 : PySem.W.findIn K (.ref C_LateGauge) "slack_below" = some (some (.ref f18)))
    (i18 : PySem.W.isFn K (.ref f18) = true)
    (l18 : K.lookup f18 = some ⟨oc18, od18, .func (PySem.W.ksFn "slack_below" "LateGauge.slack_below" (defArgs s_LateGauge_slack_below) (defBody s_LateGauge_slack_below) (defScope s_LateGauge_slack_below) .none kV18 dc18 pm18 an18 (.ref cda18) ct18 cc18), sl18⟩)
    (c18 : PySem.W.codeIn K (.ref cda18) "LateGauge.slack_below" = true)
    (k18 : PySem.W.keepIn K (.ref f18) = true)
    (sr18 : K.lookup cda18 = some ⟨ccl18, cdd18, .fields vs18, ccs18⟩)
    (xn_f18 : vs18[2]? = some (.str (Str.ofString "/claim/cut.py") tf18))
    (sc18 : K.lookup cc18 = some ⟨cl18, cld18, .cell (some (.ref C_LateGauge)), csl18⟩)
    (sd18 : PySem.W.clsIn K C_LateGauge = some cdD18)
    (ss18_LateGauge : PySem.W.mroIn K C_LateGauge (.ref C_LateGauge) = some true)
    (st18_LateGauge : PySem.W.ks_superIn K C_LateGauge C_LateGauge "slack_below" = some (some (.ref f15)))
    (sty15 : PySem.W.typeIn K (.ref f15) = some (.type "function"))
    (sfi15 : PySem.W.fnIn K f15 = true)
    (ss18_LateCoarseGauge : PySem.W.mroIn K C_LateCoarseGauge (.ref C_LateGauge) = some true)
    (st18_LateCoarseGauge : PySem.W.ks_superIn K C_LateCoarseGauge C_LateGauge "slack_below" = some (some (.ref f15)))
    (a19 : PySem.W.findIn K (.ref C_LateGauge) "slack_above" = some (some (.ref f19)))
    (i19 : PySem.W.isFn K (.ref f19) = true)
    (l19 : K.lookup f19 = some ⟨oc19, od19, .func (PySem.W.ksFn "slack_above" "LateGauge.slack_above" (defArgs s_LateGauge_slack_above) (defBody s_LateGauge_slack_above) (defScope s_LateGauge_slack_above) .none kV19 dc19 pm19 an19 (.ref cda19) ct19 cc19), sl19⟩)
    (c19 : PySem.W.codeIn K (.ref cda19) "LateGauge.slack_above" = true)
    (k19 : PySem.W.keepIn K (.ref f19) = true)
    (sr19 : K.lookup cda19 = some ⟨ccl19, cdd19, .fields vs19, ccs19⟩)
    (xn_f19 : vs19[2]? = some (.str (Str.ofString "/claim/cut.py") tf19))
    (sc19 : K.lookup cc19 = some ⟨cl19, cld19, .cell (some (.ref C_LateGauge)), csl19⟩)
    (sd19 : PySem.W.clsIn K C_LateGauge = some cdD19)
    (ss19_LateGauge : PySem.W.mroIn K C_LateGauge (.ref C_LateGauge) = some true)
    (st19_LateGauge : PySem.W.ks_superIn K C_LateGauge C_LateGauge "slack_above" = some (some (.ref f16)))
    (ss19_LateCoarseGauge : PySem.W.mroIn K C_LateCoarseGauge (.ref C_LateGauge) = some true)
    (st19_LateCoarseGauge : PySem.W.ks_superIn K C_LateCoarseGauge C_LateGauge "slack_above" = some (some (.ref f17)))
    (sty17 : PySem.W.typeIn K (.ref f17) = some (.type "function"))
    (sfi17 : PySem.W.fnIn K f17 = true)
    (a20 : PySem.W.findIn K (.ref C_DuplicateGauge) "__init__" = some (some (.ref f20)))
    (i20 : PySem.W.isFn K (.ref f20) = true)
    (l20 : K.lookup f20 = some ⟨oc20, od20, .func (PySem.W.fnOf "__init__" "DuplicateGauge.__init__" (defArgs s_DuplicateGauge_init) (defBody s_DuplicateGauge_init) (defScope s_DuplicateGauge_init) .none kV20 dc20 pm20 an20 cd20 ct20), sl20⟩)
    (c20 : PySem.W.codeIn K cd20 "DuplicateGauge.__init__" = true)
    (k20 : PySem.W.keepIn K (.ref f20) = true)
    (ty_DuplicateGauge : PySem.W.typeIn K (.ref f20) = some (.type "function"))
    (a21 : PySem.W.findIn K (.ref C_UnknownGauge) "__init__" = some (some (.ref f21)))
    (i21 : PySem.W.isFn K (.ref f21) = true)
    (l21 : K.lookup f21 = some ⟨oc21, od21, .func (PySem.W.fnOf "__init__" "UnknownGauge.__init__" (defArgs s_UnknownGauge_init) (defBody s_UnknownGauge_init) (defScope s_UnknownGauge_init) .none kV21 dc21 pm21 an21 cd21 ct21), sl21⟩)
    (c21 : PySem.W.codeIn K cd21 "UnknownGauge.__init__" = true)
    (k21 : PySem.W.keepIn K (.ref f21) = true)
    (ty_UnknownGauge : PySem.W.typeIn K (.ref f21) = some (.type "function"))
    (a22 : PySem.W.findIn K (.ref C_Rack) "names" = some (some (.ref f22)))
    (i22 : PySem.W.isFn K (.ref f22) = true)
    (l22 : K.lookup f22 = some ⟨oc22, od22, .func (PySem.W.fnOf "names" "Rack.names" (defArgs s_Rack_names) (defBody s_Rack_names) (defScope s_Rack_names) .none kV22 dc22 pm22 an22 cd22 ct22), sl22⟩)
    (c22 : PySem.W.codeIn K cd22 "Rack.names" = true)
    (k22 : PySem.W.keepIn K (.ref f22) = true)
    (a23 : PySem.W.findIn K (.ref C_Rack) "__contains__" = some (some (.ref f23)))
    (i23 : PySem.W.isFn K (.ref f23) = true)
    (l23 : K.lookup f23 = some ⟨oc23, od23, .func (PySem.W.fnOf "__contains__" "Rack.__contains__" (defArgs s_Rack_contains) (defBody s_Rack_contains) (defScope s_Rack_contains) .none kV23 dc23 pm23 an23 cd23 ct23), sl23⟩)
    (c23 : PySem.W.codeIn K cd23 "Rack.__contains__" = true)
    (k23 : PySem.W.keepIn K (.ref f23) = true)
    (a24 : PySem.W.findIn K (.ref C_Rack) "gauge" = some (some (.ref f24)))
    (i24 : PySem.W.isFn K (.ref f24) = true)
    (l24 : K.lookup f24 = some ⟨oc24, od24, .func (PySem.W.fnOf "gauge" "Rack.gauge" (defArgs s_Rack_gauge) (defBody s_Rack_gauge) (defScope s_Rack_gauge) .none kV24 dc24 pm24 an24 cd24 ct24), sl24⟩)
    (c24 : PySem.W.codeIn K cd24 "Rack.gauge" = true)
    (k24 : PySem.W.keepIn K (.ref f24) = true)
    (a25 : PySem.W.findIn K (.ref C_Rack) "faults" = some (some (.ref f25)))
    (i25 : PySem.W.isFn K (.ref f25) = true)
    (l25 : K.lookup f25 = some ⟨oc25, od25, .func (PySem.W.fnOf "faults" "Rack.faults" (defArgs s_Rack_faults) (defBody s_Rack_faults) (defScope s_Rack_faults) .none kV25 dc25 pm25 an25 cd25 ct25), sl25⟩)
    (c25 : PySem.W.codeIn K cd25 "Rack.faults" = true)
    (k25 : PySem.W.keepIn K (.ref f25) = true)
    (a26 : PySem.W.findIn K (.ref C_Rack) "_refuse_unknown" = some (some (.ref f26)))
    (i26 : PySem.W.isFn K (.ref f26) = true)
    (l26 : K.lookup f26 = some ⟨oc26, od26, .func (PySem.W.fnOf "_refuse_unknown" "Rack._refuse_unknown" (defArgs s_Rack_refuse_unknown) (defBody s_Rack_refuse_unknown) (defScope s_Rack_refuse_unknown) .none kV26 dc26 pm26 an26 cd26 ct26), sl26⟩)
    (c26 : PySem.W.codeIn K cd26 "Rack._refuse_unknown" = true)
    (k26 : PySem.W.keepIn K (.ref f26) = true)
    (a27 : PySem.W.nsIn K mainGlobals "_faults_of" = some (some (.ref f27)))
    (l27 : K.lookup f27 = some ⟨oc27, od27, .func (PySem.W.fnOf "_faults_of" "_faults_of" (defArgs s_m_faults_of) (defBody s_m_faults_of) (defScope s_m_faults_of) .none kV27 dc27 pm27 an27 cd27 ct27), sl27⟩)
    (c27 : PySem.W.codeIn K cd27 "_faults_of" = true)
    (k27 : PySem.W.keepIn K (.ref f27) = true)
    (a28 : PySem.W.findIn K (.ref C_Rack) "__init__" = some (some (.ref f28)))
    (i28 : PySem.W.isFn K (.ref f28) = true)
    (l28 : K.lookup f28 = some ⟨oc28, od28, .func (PySem.W.fnOf "__init__" "Rack.__init__" (defArgs s_Rack_init) (defBody s_Rack_init) (defScope s_Rack_init) .none (.ref kd28) dc28 pm28 an28 cd28 ct28), sl28⟩)
    (c28 : PySem.W.codeIn K cd28 "Rack.__init__" = true)
    (k28 : PySem.W.keepIn K (.ref f28) = true)
    (kw28 : PySem.W.nsIn K kd28 "together" = some (some (.ref k_em_Rack_init)))
    (em28 : K.lookup k_em_Rack_init = some ⟨.type "tuple", oem28, .seq #[] nem28, sem28⟩)
    (mk_Rack : PySem.W.makesIn K C_Rack = true)
    (kc_Rack : PySem.W.keepIn K (.ref C_Rack) = true)
    (cg_Rack : PySem.W.specialIn K (.ref C_Rack) "__getattribute__" = some (some (.builtin "type.__getattribute__")))
    (cr_Rack : PySem.W.readsIn K C_Rack (.type "type") = true)
    (ma29 : PySem.W.findCls K (.ref C_Rack) (.type "type") "of" = some (.get (.builtin "classmethod.__get__") (.ref p29) .none (.ref C_Rack)))
    (mr29 : PySem.W.recIn K p29 "classmethod" = some (.ref f29 :: rs29))
    (mf29 : PySem.W.fnIn K f29 = true)
    (l29 : K.lookup f29 = some ⟨oc29, od29, .func (PySem.W.fnOf "of" "Rack.of" (defArgs s_Rack_of) (defBody s_Rack_of) (defScope s_Rack_of) (.ref kd29) kV29 dc29 pm29 an29 cd29 ct29), sl29⟩)
    (c29 : PySem.W.codeIn K cd29 "Rack.of" = true)
    (k29 : PySem.W.keepIn K (.ref f29) = true)
    (kw29 : K.lookup kd29 = some ⟨.type "tuple", okd29, .seq #[.ref k_em_Rack_of] nkd29, skd29⟩)
    (em29 : K.lookup k_em_Rack_of = some ⟨.type "tuple", oem29, .seq #[] nem29, sem29⟩)
    (a30 : PySem.W.nsIn K mainGlobals "_without" = some (some (.ref f30)))
    (l30 : K.lookup f30 = some ⟨oc30, od30, .func (PySem.W.fnOf "_without" "_without" (defArgs s_m_without) (defBody s_m_without) (defScope s_m_without) .none kV30 dc30 pm30 an30 cd30 ct30), sl30⟩)
    (c30 : PySem.W.codeIn K cd30 "_without" = true)
    (k30 : PySem.W.keepIn K (.ref f30) = true)
    (a31 : PySem.W.nsIn K mainGlobals "_farthest" = some (some (.ref f31)))
    (l31 : K.lookup f31 = some ⟨oc31, od31, .func (PySem.W.fnOf "_farthest" "_farthest" (defArgs s_m_farthest) (defBody s_m_farthest) (defScope s_m_farthest) .none kV31 dc31 pm31 an31 cd31 ct31), sl31⟩)
    (c31 : PySem.W.codeIn K cd31 "_farthest" = true)
    (k31 : PySem.W.keepIn K (.ref f31) = true)
    (a32 : PySem.W.findIn K (.ref C_MissingReading) "__init__" = some (some (.ref f32)))
    (i32 : PySem.W.isFn K (.ref f32) = true)
    (l32 : K.lookup f32 = some ⟨oc32, od32, .func (PySem.W.fnOf "__init__" "MissingReading.__init__" (defArgs s_MissingReading_init) (defBody s_MissingReading_init) (defScope s_MissingReading_init) .none kV32 dc32 pm32 an32 cd32 ct32), sl32⟩)
    (c32 : PySem.W.codeIn K cd32 "MissingReading.__init__" = true)
    (k32 : PySem.W.keepIn K (.ref f32) = true)
    (ty_MissingReading : PySem.W.typeIn K (.ref f32) = some (.type "function"))
    (a33 : PySem.W.findIn K (.ref C_NoLevel) "__init__" = some (some (.ref f33)))
    (i33 : PySem.W.isFn K (.ref f33) = true)
    (l33 : K.lookup f33 = some ⟨oc33, od33, .func (PySem.W.fnOf "__init__" "NoLevel.__init__" (defArgs s_NoLevel_init) (defBody s_NoLevel_init) (defScope s_NoLevel_init) .none kV33 dc33 pm33 an33 cd33 ct33), sl33⟩)
    (c33 : PySem.W.codeIn K cd33 "NoLevel.__init__" = true)
    (k33 : PySem.W.keepIn K (.ref f33) = true)
    (ty_NoLevel : PySem.W.typeIn K (.ref f33) = some (.type "function"))
    (a34 : PySem.W.findIn K (.ref C_BadLimit) "__init__" = some (some (.ref f34)))
    (i34 : PySem.W.isFn K (.ref f34) = true)
    (l34 : K.lookup f34 = some ⟨oc34, od34, .func (PySem.W.fnOf "__init__" "BadLimit.__init__" (defArgs s_BadLimit_init) (defBody s_BadLimit_init) (defScope s_BadLimit_init) .none kV34 dc34 pm34 an34 cd34 ct34), sl34⟩)
    (c34 : PySem.W.codeIn K cd34 "BadLimit.__init__" = true)
    (k34 : PySem.W.keepIn K (.ref f34) = true)
    (ty_BadLimit : PySem.W.typeIn K (.ref f34) = some (.type "function"))
    (a35 : PySem.W.nsIn K mainGlobals "_refuse_limit" = some (some (.ref f35)))
    (l35 : K.lookup f35 = some ⟨oc35, od35, .func (PySem.W.fnOf "_refuse_limit" "_refuse_limit" (defArgs s_m_refuse_limit) (defBody s_m_refuse_limit) (defScope s_m_refuse_limit) .none kV35 dc35 pm35 an35 cd35 ct35), sl35⟩)
    (c35 : PySem.W.codeIn K cd35 "_refuse_limit" = true)
    (k35 : PySem.W.keepIn K (.ref f35) = true)
    (a36 : PySem.W.findIn K (.ref C_Keeper) "__init__" = some (some (.ref f36)))
    (i36 : PySem.W.isFn K (.ref f36) = true)
    (l36 : K.lookup f36 = some ⟨oc36, od36, .func (PySem.W.fnOf "__init__" "Keeper.__init__" (defArgs s_Keeper_init) (defBody s_Keeper_init) (defScope s_Keeper_init) .none kV36 dc36 pm36 an36 cd36 ct36), sl36⟩)
    (c36 : PySem.W.codeIn K cd36 "Keeper.__init__" = true)
    (k36 : PySem.W.keepIn K (.ref f36) = true)
    (mk_Keeper : PySem.W.makesIn K C_Keeper = true)
    (kc_Keeper : PySem.W.keepIn K (.ref C_Keeper) = true)
    (a37 : PySem.W.findIn K (.ref C_Keeper) "kept" = some (some (.ref f37)))
    (i37 : PySem.W.isFn K (.ref f37) = true)
    (l37 : K.lookup f37 = some ⟨oc37, od37, .func (PySem.W.fnOf "kept" "Keeper.kept" (defArgs s_Keeper_kept) (defBody s_Keeper_kept) (defScope s_Keeper_kept) .none kV37 dc37 pm37 an37 cd37 ct37), sl37⟩)
    (c37 : PySem.W.codeIn K cd37 "Keeper.kept" = true)
    (k37 : PySem.W.keepIn K (.ref f37) = true)
    (a38 : PySem.W.findIn K (.ref C_Keeper) "dropped" = some (some (.ref f38)))
    (i38 : PySem.W.isFn K (.ref f38) = true)
    (l38 : K.lookup f38 = some ⟨oc38, od38, .func (PySem.W.fnOf "dropped" "Keeper.dropped" (defArgs s_Keeper_dropped) (defBody s_Keeper_dropped) (defScope s_Keeper_dropped) .none kV38 dc38 pm38 an38 cd38 ct38), sl38⟩)
    (c38 : PySem.W.codeIn K cd38 "Keeper.dropped" = true)
    (k38 : PySem.W.keepIn K (.ref f38) = true)
    (a39 : PySem.W.findIn K (.ref C_Keeper) "take" = some (some (.ref f39)))
    (i39 : PySem.W.isFn K (.ref f39) = true)
    (l39 : K.lookup f39 = some ⟨oc39, od39, .func (PySem.W.fnOf "take" "Keeper.take" (defArgs s_Keeper_take) (defBody s_Keeper_take) (defScope s_Keeper_take) .none kV39 dc39 pm39 an39 cd39 ct39), sl39⟩)
    (c39 : PySem.W.codeIn K cd39 "Keeper.take" = true)
    (k39 : PySem.W.keepIn K (.ref f39) = true)
    (a40 : PySem.W.findIn K (.ref C_Keeper) "limit" = some (some (.ref p40)))
    (pg40 : PySem.W.specialIn K (.ref p40) "__get__" = some (some (.builtin "property.__get__")))
    (pt40 : PySem.W.takesIn K (.ref p40) = some true)
    (pr40 : PySem.W.recIn K p40 "property" = some (.ref f40 :: rs40))
    (l40 : K.lookup f40 = some ⟨oc40, od40, .func (PySem.W.fnOf "limit" "Keeper.limit" (defArgs s_Keeper_limit) (defBody s_Keeper_limit) (defScope s_Keeper_limit) .none kV40 dc40 pm40 an40 cd40 ct40), sl40⟩)
    (c40 : PySem.W.codeIn K cd40 "Keeper.limit" = true)
    (k40 : PySem.W.keepIn K (.ref f40) = true)
    (pt41 : PySem.W.takerIn K C_Keeper "limit" = some (some (.ref p41)))
    (py41 : PySem.W.typeIn K (.ref p41) = some (.type "property"))
    (ps41 : PySem.W.recIn K p41 "property" = some (ra41 :: .ref f41 :: rs41))
    (l41 : K.lookup f41 = some ⟨oc41, od41, .func (PySem.W.fnOf "limit" "Keeper.limit" (defArgs s_Keeper_limit__set) (defBody s_Keeper_limit__set) (defScope s_Keeper_limit__set) .none kV41 dc41 pm41 an41 cd41 ct41), sl41⟩)
    (c41 : PySem.W.codeIn K cd41 "Keeper.limit" = true)
    (k41 : PySem.W.keepIn K (.ref f41) = true)
    (a42 : PySem.W.findIn K (.ref C_Keeper) "change" = some (some (.ref f42)))
    (i42 : PySem.W.isFn K (.ref f42) = true)
    (l42 : K.lookup f42 = some ⟨oc42, od42, .func (PySem.W.fnOf "change" "Keeper.change" (defArgs s_Keeper_change) (defBody s_Keeper_change) (defScope s_Keeper_change) .none kV42 dc42 pm42 an42 cd42 ct42), sl42⟩)
    (c42 : PySem.W.codeIn K cd42 "Keeper.change" = true)
    (k42 : PySem.W.keepIn K (.ref f42) = true)
    (a43 : PySem.W.nsIn K mainGlobals "_law_spot" = some (some (.ref f43)))
    (l43 : K.lookup f43 = some ⟨oc43, od43, .func (PySem.W.fnOf "_law_spot" "_law_spot" (defArgs s_spot) (defBody s_spot) (defScope s_spot) .none kV43 dc43 pm43 an43 cd43 ct43), sl43⟩)
    (c43 : PySem.W.codeIn K cd43 "_law_spot" = true)
    (k43 : PySem.W.keepIn K (.ref f43) = true)
    (a44 : PySem.W.nsIn K mainGlobals "_law_shown" = some (some (.ref f44)))
    (l44 : K.lookup f44 = some ⟨oc44, od44, .func (PySem.W.fnOf "_law_shown" "_law_shown" (defArgs s_shown) (defBody s_shown) (defScope s_shown) .none kV44 dc44 pm44 an44 cd44 ct44), sl44⟩)
    (c44 : PySem.W.codeIn K cd44 "_law_shown" = true)
    (k44 : PySem.W.keepIn K (.ref f44) = true)
    (a45 : PySem.W.nsIn K mainGlobals "_law_lie" = some (some (.ref f45)))
    (l45 : K.lookup f45 = some ⟨oc45, od45, .func (PySem.W.fnOf "_law_lie" "_law_lie" (defArgs s_lie) (defBody s_lie) (defScope s_lie) .none kV45 dc45 pm45 an45 cd45 ct45), sl45⟩)
    (c45 : PySem.W.codeIn K cd45 "_law_lie" = true)
    (k45 : PySem.W.keepIn K (.ref f45) = true)
    (a46 : PySem.W.nsIn K mainGlobals "_law_farthest" = some (some (.ref f46)))
    (l46 : K.lookup f46 = some ⟨oc46, od46, .func (PySem.W.fnOf "_law_farthest" "_law_farthest" (defArgs s_farthest) (defBody s_farthest) (defScope s_farthest) .none kV46 dc46 pm46 an46 cd46 ct46), sl46⟩)
    (c46 : PySem.W.codeIn K cd46 "_law_farthest" = true)
    (k46 : PySem.W.keepIn K (.ref f46) = true)
    (a47 : PySem.W.nsIn K mainGlobals "_law_tick" = some (some (.ref f47)))
    (l47 : K.lookup f47 = some ⟨oc47, od47, .func (PySem.W.fnOf "_law_tick" "_law_tick" (defArgs s_tick) (defBody s_tick) (defScope s_tick) .none kV47 dc47 pm47 an47 cd47 ct47), sl47⟩)
    (c47 : PySem.W.codeIn K cd47 "_law_tick" = true)
    (k47 : PySem.W.keepIn K (.ref f47) = true)
    (a48 : PySem.W.nsIn K mainGlobals "_law_few" = some (some (.ref f48)))
    (l48 : K.lookup f48 = some ⟨oc48, od48, .func (PySem.W.fnOf "_law_few" "_law_few" (defArgs s_few) (defBody s_few) (defScope s_few) .none kV48 dc48 pm48 an48 cd48 ct48), sl48⟩)
    (c48 : PySem.W.codeIn K cd48 "_law_few" = true)
    (k48 : PySem.W.keepIn K (.ref f48) = true)
    (a49 : PySem.W.nsIn K mainGlobals "_law_refused" = some (some (.ref f49)))
    (l49 : K.lookup f49 = some ⟨oc49, od49, .func (PySem.W.fnOf "_law_refused" "_law_refused" (defArgs s_refused) (defBody s_refused) (defScope s_refused) .none kV49 dc49 pm49 an49 cd49 ct49), sl49⟩)
    (c49 : PySem.W.codeIn K cd49 "_law_refused" = true)
    (k49 : PySem.W.keepIn K (.ref f49) = true)
    (a50 : PySem.W.nsIn K mainGlobals "_law_take_told" = some (some (.ref f50)))
    (l50 : K.lookup f50 = some ⟨oc50, od50, .func (PySem.W.fnOf "_law_take_told" "_law_take_told" (defArgs s_take_told) (defBody s_take_told) (defScope s_take_told) .none kV50 dc50 pm50 an50 cd50 ct50), sl50⟩)
    (c50 : PySem.W.codeIn K cd50 "_law_take_told" = true)
    (k50 : PySem.W.keepIn K (.ref f50) = true)
    (a51 : PySem.W.nsIn K mainGlobals "law" = some (some (.ref f51)))
    (l51 : K.lookup f51 = some ⟨oc51, od51, .func (PySem.W.fnOf "law" "law" (defArgs s_law) (defBody s_law) (defScope s_law) .none kV51 dc51 pm51 an51 cd51 ct51), sl51⟩)
    (c51 : PySem.W.codeIn K cd51 "law" = true)
    (k51 : PySem.W.keepIn K (.ref f51) = true)
    (ge_ga : PySem.W.specialIn K (.ref C_GaugeError) "__getattribute__" = some (some (.builtin "type.__getattribute__")))
    (ge_rd : PySem.W.readsIn K C_GaugeError (.type "type") = true)
    (ge_at : PySem.W.findCls K (.ref C_GaugeError) (.type "type") "__init__" = some (.val (.builtin "ValueError.__init__")))
    (xL_NoLevel : K.lookup C_NoLevel = some (excClassObj nmNoLevel qNoLevel C_NoLevel NNoLevel bsNoLevel [.ref C_GaugeError, .type "ValueError", .type "Exception", .type "BaseException", .type "object"] true snNoLevel subNoLevel abNoLevel colNoLevel ddNoLevel m0NoLevel m1NoLevel m2NoLevel m3NoLevel m5NoLevel "ValueError.__new__"))
    (xsa_NoLevel : PySem.W.findIn K (.ref C_NoLevel) "__setattr__" = some (some (.builtin "object.__setattr__")))
    (xga_NoLevel : PySem.W.findIn K (.ref C_NoLevel) "__getattribute__" = some (some (.builtin "BaseException.__getattribute__")))
    (xgg_NoLevel : PySem.W.findIn K (.ref C_NoLevel) "__getattr__" = some none)
    (xkC_NoLevel : PySem.W.keepIn K (.ref C_NoLevel) = true)
    (xeC_NoLevel : PySem.W.subIn K (.ref C_NoLevel) (.type "BaseException") = some true)
    (xtC_NoLevel : PySem.W.typeIn K (.ref C_NoLevel) = some (.type "type"))
    (xhC_NoLevel : PySem.W.hasDictIn K C_NoLevel = true)
    (xic_NoLevel : PySem.W.isClsIn K C_NoLevel = true)
    (xs_NoLevel_NoLevel : PySem.W.subIn K (.ref C_NoLevel) (.ref C_NoLevel) = some true)
    (xL_Apart : K.lookup C_Apart = some (excClassObj nmApart qApart C_Apart NApart bsApart [.ref C_NoLevel, .ref C_GaugeError, .type "ValueError", .type "Exception", .type "BaseException", .type "object"] true snApart subApart abApart colApart ddApart m0Apart m1Apart m2Apart m3Apart m5Apart "ValueError.__new__"))
    (xsa_Apart : PySem.W.findIn K (.ref C_Apart) "__setattr__" = some (some (.builtin "object.__setattr__")))
    (xga_Apart : PySem.W.findIn K (.ref C_Apart) "__getattribute__" = some (some (.builtin "BaseException.__getattribute__")))
    (xgg_Apart : PySem.W.findIn K (.ref C_Apart) "__getattr__" = some none)
    (xkC_Apart : PySem.W.keepIn K (.ref C_Apart) = true)
    (xeC_Apart : PySem.W.subIn K (.ref C_Apart) (.type "BaseException") = some true)
    (xtC_Apart : PySem.W.typeIn K (.ref C_Apart) = some (.type "type"))
    (xhC_Apart : PySem.W.hasDictIn K C_Apart = true)
    (xic_Apart : PySem.W.isClsIn K C_Apart = true)
    (n_Apart_first : PySem.W.findIn K (.ref C_Apart) "first" = some none)
    (n_Apart_second : PySem.W.findIn K (.ref C_Apart) "second" = some none)
    (xs_Apart_NoLevel : PySem.W.subIn K (.ref C_Apart) (.ref C_NoLevel) = some true)
    (xL_BadLiars : K.lookup C_BadLiars = some (excClassObj nmBadLiars qBadLiars C_BadLiars NBadLiars bsBadLiars [.ref C_GaugeError, .type "ValueError", .type "Exception", .type "BaseException", .type "object"] true snBadLiars subBadLiars abBadLiars colBadLiars ddBadLiars m0BadLiars m1BadLiars m2BadLiars m3BadLiars m5BadLiars "ValueError.__new__"))
    (xsa_BadLiars : PySem.W.findIn K (.ref C_BadLiars) "__setattr__" = some (some (.builtin "object.__setattr__")))
    (xga_BadLiars : PySem.W.findIn K (.ref C_BadLiars) "__getattribute__" = some (some (.builtin "BaseException.__getattribute__")))
    (xgg_BadLiars : PySem.W.findIn K (.ref C_BadLiars) "__getattr__" = some none)
    (xkC_BadLiars : PySem.W.keepIn K (.ref C_BadLiars) = true)
    (xeC_BadLiars : PySem.W.subIn K (.ref C_BadLiars) (.type "BaseException") = some true)
    (xtC_BadLiars : PySem.W.typeIn K (.ref C_BadLiars) = some (.type "type"))
    (xhC_BadLiars : PySem.W.hasDictIn K C_BadLiars = true)
    (xic_BadLiars : PySem.W.isClsIn K C_BadLiars = true)
    (n_BadLiars_number : PySem.W.findIn K (.ref C_BadLiars) "number" = some none)
    (xL_BadGauge : K.lookup C_BadGauge = some (excClassObj nmBadGauge qBadGauge C_BadGauge NBadGauge bsBadGauge [.ref C_GaugeError, .type "ValueError", .type "Exception", .type "BaseException", .type "object"] true snBadGauge subBadGauge abBadGauge colBadGauge ddBadGauge m0BadGauge m1BadGauge m2BadGauge m3BadGauge m5BadGauge "ValueError.__new__"))
    (xsa_BadGauge : PySem.W.findIn K (.ref C_BadGauge) "__setattr__" = some (some (.builtin "object.__setattr__")))
    (xga_BadGauge : PySem.W.findIn K (.ref C_BadGauge) "__getattribute__" = some (some (.builtin "BaseException.__getattribute__")))
    (xgg_BadGauge : PySem.W.findIn K (.ref C_BadGauge) "__getattr__" = some none)
    (xkC_BadGauge : PySem.W.keepIn K (.ref C_BadGauge) = true)
    (xeC_BadGauge : PySem.W.subIn K (.ref C_BadGauge) (.type "BaseException") = some true)
    (xtC_BadGauge : PySem.W.typeIn K (.ref C_BadGauge) = some (.type "type"))
    (xhC_BadGauge : PySem.W.hasDictIn K C_BadGauge = true)
    (xic_BadGauge : PySem.W.isClsIn K C_BadGauge = true)
    (n_BadGauge_name : PySem.W.findIn K (.ref C_BadGauge) "name" = some none)
    (xL_DuplicateGauge : K.lookup C_DuplicateGauge = some (excClassObj nmDuplicateGauge qDuplicateGauge C_DuplicateGauge NDuplicateGauge bsDuplicateGauge [.ref C_GaugeError, .type "ValueError", .type "Exception", .type "BaseException", .type "object"] true snDuplicateGauge subDuplicateGauge abDuplicateGauge colDuplicateGauge ddDuplicateGauge m0DuplicateGauge m1DuplicateGauge m2DuplicateGauge m3DuplicateGauge m5DuplicateGauge "ValueError.__new__"))
    (xsa_DuplicateGauge : PySem.W.findIn K (.ref C_DuplicateGauge) "__setattr__" = some (some (.builtin "object.__setattr__")))
    (xga_DuplicateGauge : PySem.W.findIn K (.ref C_DuplicateGauge) "__getattribute__" = some (some (.builtin "BaseException.__getattribute__")))
    (xgg_DuplicateGauge : PySem.W.findIn K (.ref C_DuplicateGauge) "__getattr__" = some none)
    (xkC_DuplicateGauge : PySem.W.keepIn K (.ref C_DuplicateGauge) = true)
    (xeC_DuplicateGauge : PySem.W.subIn K (.ref C_DuplicateGauge) (.type "BaseException") = some true)
    (xtC_DuplicateGauge : PySem.W.typeIn K (.ref C_DuplicateGauge) = some (.type "type"))
    (xhC_DuplicateGauge : PySem.W.hasDictIn K C_DuplicateGauge = true)
    (xic_DuplicateGauge : PySem.W.isClsIn K C_DuplicateGauge = true)
    (n_DuplicateGauge_name : PySem.W.findIn K (.ref C_DuplicateGauge) "name" = some none)
    (xL_UnknownGauge : K.lookup C_UnknownGauge = some (excClassObj nmUnknownGauge qUnknownGauge C_UnknownGauge NUnknownGauge bsUnknownGauge [.ref C_GaugeError, .type "ValueError", .type "Exception", .type "BaseException", .type "object"] true snUnknownGauge subUnknownGauge abUnknownGauge colUnknownGauge ddUnknownGauge m0UnknownGauge m1UnknownGauge m2UnknownGauge m3UnknownGauge m5UnknownGauge "ValueError.__new__"))
    (xsa_UnknownGauge : PySem.W.findIn K (.ref C_UnknownGauge) "__setattr__" = some (some (.builtin "object.__setattr__")))
    (xga_UnknownGauge : PySem.W.findIn K (.ref C_UnknownGauge) "__getattribute__" = some (some (.builtin "BaseException.__getattribute__")))
    (xgg_UnknownGauge : PySem.W.findIn K (.ref C_UnknownGauge) "__getattr__" = some none)
    (xkC_UnknownGauge : PySem.W.keepIn K (.ref C_UnknownGauge) = true)
    (xeC_UnknownGauge : PySem.W.subIn K (.ref C_UnknownGauge) (.type "BaseException") = some true)
    (xtC_UnknownGauge : PySem.W.typeIn K (.ref C_UnknownGauge) = some (.type "type"))
    (xhC_UnknownGauge : PySem.W.hasDictIn K C_UnknownGauge = true)
    (xic_UnknownGauge : PySem.W.isClsIn K C_UnknownGauge = true)
    (n_UnknownGauge_name : PySem.W.findIn K (.ref C_UnknownGauge) "name" = some none)
    (xL_MissingReading : K.lookup C_MissingReading = some (excClassObj nmMissingReading qMissingReading C_MissingReading NMissingReading bsMissingReading [.ref C_GaugeError, .type "ValueError", .type "Exception", .type "BaseException", .type "object"] true snMissingReading subMissingReading abMissingReading colMissingReading ddMissingReading m0MissingReading m1MissingReading m2MissingReading m3MissingReading m5MissingReading "ValueError.__new__"))
    (xsa_MissingReading : PySem.W.findIn K (.ref C_MissingReading) "__setattr__" = some (some (.builtin "object.__setattr__")))
    (xga_MissingReading : PySem.W.findIn K (.ref C_MissingReading) "__getattribute__" = some (some (.builtin "BaseException.__getattribute__")))
    (xgg_MissingReading : PySem.W.findIn K (.ref C_MissingReading) "__getattr__" = some none)
    (xkC_MissingReading : PySem.W.keepIn K (.ref C_MissingReading) = true)
    (xeC_MissingReading : PySem.W.subIn K (.ref C_MissingReading) (.type "BaseException") = some true)
    (xtC_MissingReading : PySem.W.typeIn K (.ref C_MissingReading) = some (.type "type"))
    (xhC_MissingReading : PySem.W.hasDictIn K C_MissingReading = true)
    (xic_MissingReading : PySem.W.isClsIn K C_MissingReading = true)
    (n_MissingReading_name : PySem.W.findIn K (.ref C_MissingReading) "name" = some none)
    (xs_MissingReading_MissingReading : PySem.W.subIn K (.ref C_MissingReading) (.ref C_MissingReading) = some true)
    (xL_BadLimit : K.lookup C_BadLimit = some (excClassObj nmBadLimit qBadLimit C_BadLimit NBadLimit bsBadLimit [.ref C_GaugeError, .type "ValueError", .type "Exception", .type "BaseException", .type "object"] true snBadLimit subBadLimit abBadLimit colBadLimit ddBadLimit m0BadLimit m1BadLimit m2BadLimit m3BadLimit m5BadLimit "ValueError.__new__"))
    (xsa_BadLimit : PySem.W.findIn K (.ref C_BadLimit) "__setattr__" = some (some (.builtin "object.__setattr__")))
    (xga_BadLimit : PySem.W.findIn K (.ref C_BadLimit) "__getattribute__" = some (some (.builtin "BaseException.__getattribute__")))
    (xgg_BadLimit : PySem.W.findIn K (.ref C_BadLimit) "__getattr__" = some none)
    (xkC_BadLimit : PySem.W.keepIn K (.ref C_BadLimit) = true)
    (xeC_BadLimit : PySem.W.subIn K (.ref C_BadLimit) (.type "BaseException") = some true)
    (xtC_BadLimit : PySem.W.typeIn K (.ref C_BadLimit) = some (.type "type"))
    (xhC_BadLimit : PySem.W.hasDictIn K C_BadLimit = true)
    (xic_BadLimit : PySem.W.isClsIn K C_BadLimit = true)
    (n_BadLimit_number : PySem.W.findIn K (.ref C_BadLimit) "number" = some none)
    (xs_BadLimit_BadLimit : PySem.W.subIn K (.ref C_BadLimit) (.ref C_BadLimit) = some true)
    (pg_Keeper : PySem.W.plainGet K C_Keeper Str.empty = true)
    (hd_Keeper : PySem.W.hasDictIn K C_Keeper = true)
    (po_Keeper : PySem.W.plainOver K C_Keeper = true)
    (sa_Keeper : PySem.W.findIn K (.ref C_Keeper) "__setattr__" = some (some (.builtin "object.__setattr__")))
    (cc_Keeper : PySem.W.findIn K (.ref C_Keeper) "__class__" = some (some (.builtin "object.__class__")))
    (oc_s : PySem.W.specialIn K (.builtin "object.__class__") "__get__" = some (some (.builtin "getset_descriptor.__get__")))
    (oc_t : PySem.W.takesIn K (.builtin "object.__class__") = some true)
    (mo_Keeper : PySem.W.mroIn K C_Keeper (.type "object") = some true)
    (n_Keeper__limit : PySem.W.findIn K (.ref C_Keeper) "_limit" = some none)
    (n_Keeper__kept : PySem.W.findIn K (.ref C_Keeper) "_kept" = some none)
    (n_Keeper__dropped : PySem.W.findIn K (.ref C_Keeper) "_dropped" = some none)
    (pg_Gauge : PySem.W.plainGet K C_Gauge Str.empty = true)
    (hd_Gauge : PySem.W.hasDictIn K C_Gauge = true)
    (po_Gauge : PySem.W.plainOver K C_Gauge = true)
    (sa_Gauge : PySem.W.findIn K (.ref C_Gauge) "__setattr__" = some (some (.builtin "object.__setattr__")))
    (cc_Gauge : PySem.W.findIn K (.ref C_Gauge) "__class__" = some (some (.builtin "object.__class__")))
    (mo_Gauge : PySem.W.mroIn K C_Gauge (.type "object") = some true)
    (n_Gauge_name : PySem.W.findIn K (.ref C_Gauge) "name" = some none)
    (n_Gauge_radius : PySem.W.findIn K (.ref C_Gauge) "radius" = some none)
    (n_Gauge_step : PySem.W.findIn K (.ref C_Gauge) "step" = some none)
    (n_Gauge_late : PySem.W.findIn K (.ref C_Gauge) "late" = some none)
    (n_Gauge_pace : PySem.W.findIn K (.ref C_Gauge) "pace" = some none)
    (pg_CoarseGauge : PySem.W.plainGet K C_CoarseGauge Str.empty = true)
    (hd_CoarseGauge : PySem.W.hasDictIn K C_CoarseGauge = true)
    (po_CoarseGauge : PySem.W.plainOver K C_CoarseGauge = true)
    (sa_CoarseGauge : PySem.W.findIn K (.ref C_CoarseGauge) "__setattr__" = some (some (.builtin "object.__setattr__")))
    (cc_CoarseGauge : PySem.W.findIn K (.ref C_CoarseGauge) "__class__" = some (some (.builtin "object.__class__")))
    (mo_CoarseGauge : PySem.W.mroIn K C_CoarseGauge (.type "object") = some true)
    (n_CoarseGauge_name : PySem.W.findIn K (.ref C_CoarseGauge) "name" = some none)
    (n_CoarseGauge_radius : PySem.W.findIn K (.ref C_CoarseGauge) "radius" = some none)
    (n_CoarseGauge_step : PySem.W.findIn K (.ref C_CoarseGauge) "step" = some none)
    (n_CoarseGauge_late : PySem.W.findIn K (.ref C_CoarseGauge) "late" = some none)
    (n_CoarseGauge_pace : PySem.W.findIn K (.ref C_CoarseGauge) "pace" = some none)
    (pg_LateGauge : PySem.W.plainGet K C_LateGauge Str.empty = true)
    (hd_LateGauge : PySem.W.hasDictIn K C_LateGauge = true)
    (po_LateGauge : PySem.W.plainOver K C_LateGauge = true)
    (sa_LateGauge : PySem.W.findIn K (.ref C_LateGauge) "__setattr__" = some (some (.builtin "object.__setattr__")))
    (cc_LateGauge : PySem.W.findIn K (.ref C_LateGauge) "__class__" = some (some (.builtin "object.__class__")))
    (mo_LateGauge : PySem.W.mroIn K C_LateGauge (.type "object") = some true)
    (n_LateGauge_name : PySem.W.findIn K (.ref C_LateGauge) "name" = some none)
    (n_LateGauge_radius : PySem.W.findIn K (.ref C_LateGauge) "radius" = some none)
    (n_LateGauge_step : PySem.W.findIn K (.ref C_LateGauge) "step" = some none)
    (n_LateGauge_late : PySem.W.findIn K (.ref C_LateGauge) "late" = some none)
    (n_LateGauge_pace : PySem.W.findIn K (.ref C_LateGauge) "pace" = some none)
    (pg_LateCoarseGauge : PySem.W.plainGet K C_LateCoarseGauge Str.empty = true)
    (hd_LateCoarseGauge : PySem.W.hasDictIn K C_LateCoarseGauge = true)
    (po_LateCoarseGauge : PySem.W.plainOver K C_LateCoarseGauge = true)
    (sa_LateCoarseGauge : PySem.W.findIn K (.ref C_LateCoarseGauge) "__setattr__" = some (some (.builtin "object.__setattr__")))
    (cc_LateCoarseGauge : PySem.W.findIn K (.ref C_LateCoarseGauge) "__class__" = some (some (.builtin "object.__class__")))
    (mo_LateCoarseGauge : PySem.W.mroIn K C_LateCoarseGauge (.type "object") = some true)
    (n_LateCoarseGauge_name : PySem.W.findIn K (.ref C_LateCoarseGauge) "name" = some none)
    (n_LateCoarseGauge_radius : PySem.W.findIn K (.ref C_LateCoarseGauge) "radius" = some none)
    (n_LateCoarseGauge_step : PySem.W.findIn K (.ref C_LateCoarseGauge) "step" = some none)
    (n_LateCoarseGauge_late : PySem.W.findIn K (.ref C_LateCoarseGauge) "late" = some none)
    (n_LateCoarseGauge_pace : PySem.W.findIn K (.ref C_LateCoarseGauge) "pace" = some none)
    (pg_Rack : PySem.W.plainGet K C_Rack Str.empty = true)
    (hd_Rack : PySem.W.hasDictIn K C_Rack = true)
    (po_Rack : PySem.W.plainOver K C_Rack = true)
    (sa_Rack : PySem.W.findIn K (.ref C_Rack) "__setattr__" = some (some (.builtin "object.__setattr__")))
    (cc_Rack : PySem.W.findIn K (.ref C_Rack) "__class__" = some (some (.builtin "object.__class__")))
    (mo_Rack : PySem.W.mroIn K C_Rack (.type "object") = some true)
    (n_Rack__gauges : PySem.W.findIn K (.ref C_Rack) "_gauges" = some none)
    (n_Rack__faults : PySem.W.findIn K (.ref C_Rack) "_faults" = some none)
    (xs_NoLevel_MissingReading : PySem.W.subIn K (.ref C_NoLevel) (.ref C_MissingReading) = some false)
    (xcc_BadLimit : PySem.W.findIn K (.ref C_BadLimit) "__class__" = some (some (.builtin "object.__class__")))
    (xmo_BadLimit : PySem.W.mroIn K C_BadLimit (.type "object") = some true)
    (xs_BadLimit_BadLiars : PySem.W.subIn K (.ref C_BadLimit) (.ref C_BadLiars) = some false)
    (xn_BadLimit_BadLiars : (Value.ref C_BadLimit == Value.ref C_BadLiars) = false)
    (xic_GaugeError : PySem.W.isClsIn K C_GaugeError = true)
    (xtC_GaugeError : PySem.W.typeIn K (.ref C_GaugeError) = some (.type "type"))
    (xs_BadLimit_GaugeError : PySem.W.subIn K (.ref C_BadLimit) (.ref C_GaugeError) = some true)
    (xcc_MissingReading : PySem.W.findIn K (.ref C_MissingReading) "__class__" = some (some (.builtin "object.__class__")))
    (xmo_MissingReading : PySem.W.mroIn K C_MissingReading (.type "object") = some true)
    (xs_MissingReading_UnknownGauge : PySem.W.subIn K (.ref C_MissingReading) (.ref C_UnknownGauge) = some false)
    (xn_MissingReading_UnknownGauge : (Value.ref C_MissingReading == Value.ref C_UnknownGauge) = false)
    (xcc_NoLevel : PySem.W.findIn K (.ref C_NoLevel) "__class__" = some (some (.builtin "object.__class__")))
    (xmo_NoLevel : PySem.W.mroIn K C_NoLevel (.type "object") = some true)
    (xs_NoLevel_Apart : PySem.W.subIn K (.ref C_NoLevel) (.ref C_Apart) = some false)
    (xn_NoLevel_Apart : (Value.ref C_NoLevel == Value.ref C_Apart) = false)
    (cg_CoarseGauge : PySem.W.specialIn K (.ref C_CoarseGauge) "__getattribute__" = some (some (.builtin "type.__getattribute__")))
    (cr_CoarseGauge : PySem.W.readsIn K C_CoarseGauge (.type "type") = true)
    (ca_CoarseGauge : PySem.W.findCls K (.ref C_CoarseGauge) (.type "type") "__init__" = some (.val (.ref f8)))
    (cg_Gauge : PySem.W.specialIn K (.ref C_Gauge) "__getattribute__" = some (some (.builtin "type.__getattribute__")))
    (cr_Gauge : PySem.W.readsIn K C_Gauge (.type "type") = true)
    (ca_Gauge : PySem.W.findCls K (.ref C_Gauge) (.type "type") "__init__" = some (.val (.ref f7)))
    (cg_LateGauge : PySem.W.specialIn K (.ref C_LateGauge) "__getattribute__" = some (some (.builtin "type.__getattribute__")))
    (cr_LateGauge : PySem.W.readsIn K C_LateGauge (.type "type") = true)
    (ca_LateGauge : PySem.W.findCls K (.ref C_LateGauge) (.type "type") "__init__" = some (.val (.ref f9)))
    (kg_BARRED : PySem.W.nsIn K mainGlobals "BARRED" = some (some (.ref k_BARRED)))
    (kt_BARRED : K.lookup k_BARRED = some ⟨.type "tuple", okBARRED, .seq #[.str "rank" tkBARRED0, .str "trim" tkBARRED1, .str "weigh" tkBARRED2, .str "together" tkBARRED3] nkBARRED, skBARRED⟩)
    (kg_LETTERS : PySem.W.nsIn K mainGlobals "LETTERS" = some (some (.str "abcdefghijklmnopqrstuvwxyz" tkLETTERS)))
    (kc_Gauge_LONGEST : PySem.W.findCls K (.ref C_Gauge) (.type "type") "LONGEST" = some (.val (.int 12 tk_Gauge_LONGEST)))
    (z_abs : PySem.W.nsIn K mainGlobals "abs" = some none)
    (z_all : PySem.W.nsIn K mainGlobals "all" = some none)
    (z_int : PySem.W.nsIn K mainGlobals "int" = some none)
    (z_isinstance : PySem.W.nsIn K mainGlobals "isinstance" = some none)
    (z_len : PySem.W.nsIn K mainGlobals "len" = some none)
    (z_list : PySem.W.nsIn K mainGlobals "list" = some none)
    (z_max : PySem.W.nsIn K mainGlobals "max" = some none)
    (z_range : PySem.W.nsIn K mainGlobals "range" = some none)
    (z_sorted : PySem.W.nsIn K mainGlobals "sorted" = some none)
    (z_str : PySem.W.nsIn K mainGlobals "str" = some none)
    (z_super : PySem.W.nsIn K mainGlobals "super" = some none)
    (z_tuple : PySem.W.nsIn K mainGlobals "tuple" = some none)
    (xn_file : ((l.prog.main.file : Str) == (Str.ofString "/claim/cut.py")) = true)
    (xn_top : (l.prog.main.scope.names.lookup ("super" : Str)).isSome = false) :
    ∃ fd : FuncData, (∀ (s : Shared) (v : Value), BindsTo s fd ⟨[v], []⟩ [("_law_script", v)]) ∧ ∀ base : Heap, K.In base → base.Ns mainGlobals mg → FnOk l.prog w K mg base CX0 10 fa fd ["_law_script"] (spLaw K) := by
  have e := hfa.symm.trans (PySem.W.mg_of X G a51)
  cases e
  have tx : Txt K mg ⟨C_GaugeError, C_NoLevel, C_Apart, C_BadLiars, C_BadGauge, C_DuplicateGauge, C_UnknownGauge, C_MissingReading, C_BadLimit, C_Keeper, C_Gauge, C_CoarseGauge, C_LateGauge, C_LateCoarseGauge, C_Rack, f1, f2, f3, f4, f5, f6, f7, f8, f9, f10, f11, f12, f13, f14, f15, f16, f17, f18, f19, f20, f21, f22, f23, f24, f25, f26, f27, f28, f29, f30, f31, f32, f33, f34, f35, f36, f37, f38, f39, f40, f41, f42, f43, f44, f45, f46, f47, f48, f49, f50, fa, k_BARRED, k_em_Rack_init, k_em_Rack_of⟩ := ⟨⟨⟨_, fun_mk (st := s_take) l1 c1 k1, (fun_mk (st := s_take) l1 c1 k1).binds (ps := ["_law_box_here", "_law_many"]) fun _ _ _ _ _ _ us hl => match us, hl with | [_, _], _ => rfl⟩, PySem.W.mg_of X G a1, k1⟩,
    ⟨⟨_, fun_mk (st := s_box) l2 c2 k2, (fun_mk (st := s_box) l2 c2 k2).binds (ps := ["_law_script", "_law_salt"]) fun _ _ _ _ _ _ us hl => match us, hl with | [_, _], _ => rfl⟩, PySem.W.mg_of X G a2, k2⟩,
    ⟨⟨_, fun_mk (st := s_word) l3 c3 k3, (fun_mk (st := s_word) l3 c3 k3).binds (ps := ["_law_number", "_law_many", "_law_back"]) fun _ _ _ _ _ _ us hl => match us, hl with | [_, _, _], _ => rfl⟩, PySem.W.mg_of X G a3, k3⟩,
    ⟨⟨_, fun_mk (st := s_words) l4 c4 k4, (fun_mk (st := s_words) l4 c4 k4).binds (ps := ["_law_box_here", "_law_many"]) fun _ _ _ _ _ _ us hl => match us, hl with | [_, _], _ => rfl⟩, PySem.W.mg_of X G a4, k4⟩,
    ⟨⟨_, fun_mk (st := s_m_is_gauge_name) l5 c5 k5, (fun_mk (st := s_m_is_gauge_name) l5 c5 k5).binds (ps := ["name"]) fun _ _ _ _ _ _ us hl => match us, hl with | [_], _ => rfl⟩, PySem.W.mg_of X G a5, k5⟩,
    ⟨_, fun_mk (st := s_BadGauge_init) l6 c6 k6, (fun_mk (st := s_BadGauge_init) l6 c6 k6).binds (ps := ["self", "name"]) fun _ _ _ _ _ _ us hl => match us, hl with | [_, _], _ => rfl⟩,
    a6,
    ty_BadGauge,
    ⟨_, fun_mk (st := s_Gauge_init) l7 c7 k7, (fun_mk (st := s_Gauge_init) l7 c7 k7).binds (ps := ["self", "name", "radius"]) fun _ _ _ _ _ _ us hl => match us, hl with | [_, _, _], _ => rfl⟩,
    ⟨mk_Gauge, a7, i7, kc_Gauge⟩,
    ⟨_, fun_mk (st := s_CoarseGauge_init) l8 c8 k8, kbn_mk fun s us ws l1 l2 => match us, ws, l1, l2 with | [_, _, _], [_], _, _ => .of_eq rfl⟩,
    ⟨mk_CoarseGauge, a8, i8, kc_CoarseGauge⟩,
    ⟨_, fun_mk (st := s_LateGauge_init) l9 c9 k9, kbn_mk fun s us ws l1 l2 => match us, ws, l1, l2 with | [_, _, _], [_, _], _, _ => .of_eq rfl⟩,
    ⟨mk_LateGauge, a9, i9, kc_LateGauge⟩,
    ⟨_, fun_mk (st := s_LateCoarseGauge_init) l10 c10 k10, kbn_mk fun s us ws l1 l2 => match us, ws, l1, l2 with | [_, _, _], [_, _, _], _, _ => .of_eq rfl, kbn_mkR fun s us ws l1 l2 => match us, ws, l1, l2 with | [_, _, _], [_, _, _], _, _ => .of_eq rfl⟩,
    ⟨mk_LateCoarseGauge, a10, i10, kc_LateCoarseGauge⟩,
    ⟨⟨_, fun_mk (st := s_specs) l11 c11 k11, (fun_mk (st := s_specs) l11 c11 k11).binds (ps := ["_law_box_here", "_law_words_here"]) fun _ _ _ _ _ _ us hl => match us, hl with | [_, _], _ => rfl⟩, PySem.W.mg_of X G a11, k11⟩,
    ⟨⟨_, fun_mk (st := s_gauge) l12 c12 k12, (fun_mk (st := s_gauge) l12 c12 k12).binds (ps := ["_law_spec"]) fun _ _ _ _ _ _ us hl => match us, hl with | [_], _ => rfl⟩, PySem.W.mg_of X G a12, k12⟩,
    ⟨⟨_, fun_mk (st := s_gauges) l13 c13 k13, (fun_mk (st := s_gauges) l13 c13 k13).binds (ps := ["_law_specs_here"]) fun _ _ _ _ _ _ us hl => match us, hl with | [_], _ => rfl⟩, PySem.W.mg_of X G a13, k13⟩,
    ⟨⟨_, fun_mk (st := s_slacks) l14 c14 k14, (fun_mk (st := s_slacks) l14 c14 k14).binds (ps := ["_law_spec"]) fun _ _ _ _ _ _ us hl => match us, hl with | [_], _ => rfl⟩, PySem.W.mg_of X G a14, k14⟩,
    ⟨_, fun_mk (st := s_Gauge_slack_below) l15 c15 k15, (fun_mk (st := s_Gauge_slack_below) l15 c15 k15).binds (ps := ["self"]) fun _ _ _ _ _ _ us hl => match us, hl with | [_], _ => rfl⟩,
    ⟨a15, i15, k15⟩,
    ⟨_, fun_mk (st := s_Gauge_slack_above) l16 c16 k16, (fun_mk (st := s_Gauge_slack_above) l16 c16 k16).binds (ps := ["self"]) fun _ _ _ _ _ _ us hl => match us, hl with | [_], _ => rfl⟩,
    ⟨a16, i16, k16⟩,
    ⟨_, _, ⟨_, _, _, _, _, _, _, _, _, _, l17, rfl, rfl, fun s u => .of_eq rfl⟩, c17, ⟨_, _, _, _, _, sr17, xn_f17⟩, ⟨_, _, _, sc17⟩, ⟨_, sd17⟩, sany⟩,
    ⟨ss17_CoarseGauge, st17_CoarseGauge, sty16, sfi16⟩,
    ⟨ss17_LateCoarseGauge, st17_LateCoarseGauge, sty16, sfi16⟩,
    ⟨a17, i17, k17⟩,
    ⟨_, _, ⟨_, _, _, _, _, _, _, _, _, _, l18, rfl, rfl, fun s u => .of_eq rfl⟩, c18, ⟨_, _, _, _, _, sr18, xn_f18⟩, ⟨_, _, _, sc18⟩, ⟨_, sd18⟩, sany⟩,
    ⟨ss18_LateGauge, st18_LateGauge, sty15, sfi15⟩,
    ⟨ss18_LateCoarseGauge, st18_LateCoarseGauge, sty15, sfi15⟩,
    ⟨a18, i18, k18⟩,
    ⟨_, _, ⟨_, _, _, _, _, _, _, _, _, _, l19, rfl, rfl, fun s u => .of_eq rfl⟩, c19, ⟨_, _, _, _, _, sr19, xn_f19⟩, ⟨_, _, _, sc19⟩, ⟨_, sd19⟩, sany⟩,
    ⟨ss19_LateGauge, st19_LateGauge, sty16, sfi16⟩,
    ⟨ss19_LateCoarseGauge, st19_LateCoarseGauge, sty17, sfi17⟩,
    ⟨a19, i19, k19⟩,
    ⟨_, fun_mk (st := s_DuplicateGauge_init) l20 c20 k20, (fun_mk (st := s_DuplicateGauge_init) l20 c20 k20).binds (ps := ["self", "name"]) fun _ _ _ _ _ _ us hl => match us, hl with | [_, _], _ => rfl⟩,
    a20,
    ty_DuplicateGauge,
    ⟨_, fun_mk (st := s_UnknownGauge_init) l21 c21 k21, (fun_mk (st := s_UnknownGauge_init) l21 c21 k21).binds (ps := ["self", "name"]) fun _ _ _ _ _ _ us hl => match us, hl with | [_, _], _ => rfl⟩,
    a21,
    ty_UnknownGauge,
    ⟨_, fun_mk (st := s_Rack_names) l22 c22 k22, (fun_mk (st := s_Rack_names) l22 c22 k22).binds (ps := ["self"]) fun _ _ _ _ _ _ us hl => match us, hl with | [_], _ => rfl⟩,
    ⟨a22, i22, k22⟩,
    ⟨_, fun_mk (st := s_Rack_contains) l23 c23 k23, (fun_mk (st := s_Rack_contains) l23 c23 k23).binds (ps := ["self", "x"]) fun _ _ _ _ _ _ us hl => match us, hl with | [_, _], _ => rfl⟩,
    ⟨a23, i23, k23⟩,
    ⟨_, fun_mk (st := s_Rack_gauge) l24 c24 k24, (fun_mk (st := s_Rack_gauge) l24 c24 k24).binds (ps := ["self", "name"]) fun _ _ _ _ _ _ us hl => match us, hl with | [_, _], _ => rfl⟩,
    ⟨a24, i24, k24⟩,
    ⟨_, fun_mk (st := s_Rack_faults) l25 c25 k25, (fun_mk (st := s_Rack_faults) l25 c25 k25).binds (ps := ["self"]) fun _ _ _ _ _ _ us hl => match us, hl with | [_], _ => rfl⟩,
    ⟨a25, i25, k25⟩,
    ⟨_, fun_mk (st := s_Rack_refuse_unknown) l26 c26 k26, (fun_mk (st := s_Rack_refuse_unknown) l26 c26 k26).binds (ps := ["self", "names"]) fun _ _ _ _ _ _ us hl => match us, hl with | [_, _], _ => rfl⟩,
    ⟨a26, i26, k26⟩,
    ⟨⟨_, fun_mk (st := s_m_faults_of) l27 c27 k27, (fun_mk (st := s_m_faults_of) l27 c27 k27).binds (ps := ["names", "together"]) fun _ _ _ _ _ _ us hl => match us, hl with | [_, _], _ => rfl⟩, PySem.W.mg_of X G a27, k27⟩,
    fun H => .inr ⟨_, _, _, em28, rfl, rfl, (show (0 : Nat) ≤ sizeLine by decide), .nil⟩,
    ⟨_, _, _, _, _, _, _, _, _, _, l28, c28, kw28, rfl, (fun a w0 rest => by cases rest <;> rfl), (fun a rest => by cases rest <;> exact ⟨_, _, _, _, _, _, rfl, rfl, rfl⟩)⟩,
    ⟨mk_Rack, a28, i28, kc_Rack⟩,
    ⟨cr_Rack, cg_Rack⟩,
    ⟨_, ma29, ⟨_, mr29⟩, mf29⟩,
    fun H => .inr ⟨_, _, _, em29, rfl, rfl, (show (0 : Nat) ≤ sizeLine by decide), .nil⟩,
    defD_mk l29 c29 k29 kw29 (fun T kV doc pm an cdv ct us its h1 h2 => match us, its, h1, h2 with | [_, _, _], [_], _, _ => ⟨_, rfl, rfl⟩) (fun T kV doc pm an cdv ct us its h1 h2 => match us, its, h1, h2 with | [_, _], [_], _, _ => ⟨_, rfl, rfl⟩),
    ⟨⟨_, fun_mk (st := s_m_without) l30 c30 k30, (fun_mk (st := s_m_without) l30 c30 k30).binds (ps := ["names", "name"]) fun _ _ _ _ _ _ us hl => match us, hl with | [_, _], _ => rfl⟩, PySem.W.mg_of X G a30, k30⟩,
    ⟨⟨_, fun_mk (st := s_m_farthest) l31 c31 k31, (fun_mk (st := s_m_farthest) l31 c31 k31).binds (ps := ["kept", "readings"]) fun _ _ _ _ _ _ us hl => match us, hl with | [_, _], _ => rfl⟩, PySem.W.mg_of X G a31, k31⟩,
    ⟨_, fun_mk (st := s_MissingReading_init) l32 c32 k32, (fun_mk (st := s_MissingReading_init) l32 c32 k32).binds (ps := ["self", "name"]) fun _ _ _ _ _ _ us hl => match us, hl with | [_, _], _ => rfl⟩,
    a32,
    ty_MissingReading,
    ⟨_, fun_mk (st := s_NoLevel_init) l33 c33 k33, (fun_mk (st := s_NoLevel_init) l33 c33 k33).binds (ps := ["self"]) fun _ _ _ _ _ _ us hl => match us, hl with | [_], _ => rfl⟩,
    a33,
    ty_NoLevel,
    ⟨_, fun_mk (st := s_BadLimit_init) l34 c34 k34, (fun_mk (st := s_BadLimit_init) l34 c34 k34).binds (ps := ["self", "number"]) fun _ _ _ _ _ _ us hl => match us, hl with | [_, _], _ => rfl⟩,
    a34,
    ty_BadLimit,
    ⟨⟨_, fun_mk (st := s_m_refuse_limit) l35 c35 k35, (fun_mk (st := s_m_refuse_limit) l35 c35 k35).binds (ps := ["limit"]) fun _ _ _ _ _ _ us hl => match us, hl with | [_], _ => rfl⟩, PySem.W.mg_of X G a35, k35⟩,
    ⟨_, fun_mk (st := s_Keeper_init) l36 c36 k36, (fun_mk (st := s_Keeper_init) l36 c36 k36).binds (ps := ["self", "rack", "limit"]) fun _ _ _ _ _ _ us hl => match us, hl with | [_, _, _], _ => rfl⟩,
    ⟨mk_Keeper, a36, i36, kc_Keeper⟩,
    ⟨_, fun_mk (st := s_Keeper_kept) l37 c37 k37, (fun_mk (st := s_Keeper_kept) l37 c37 k37).binds (ps := ["self"]) fun _ _ _ _ _ _ us hl => match us, hl with | [_], _ => rfl⟩,
    ⟨a37, i37, k37⟩,
    ⟨_, fun_mk (st := s_Keeper_dropped) l38 c38 k38, (fun_mk (st := s_Keeper_dropped) l38 c38 k38).binds (ps := ["self"]) fun _ _ _ _ _ _ us hl => match us, hl with | [_], _ => rfl⟩,
    ⟨a38, i38, k38⟩,
    ⟨_, fun_mk (st := s_Keeper_take) l39 c39 k39, (fun_mk (st := s_Keeper_take) l39 c39 k39).binds (ps := ["self", "readings"]) fun _ _ _ _ _ _ us hl => match us, hl with | [_, _], _ => rfl⟩,
    ⟨a39, i39, k39⟩,
    ⟨_, a40, pg40, pt40, ⟨_, pr40⟩⟩,
    ⟨_, fun_mk (st := s_Keeper_limit) l40 c40 k40, (fun_mk (st := s_Keeper_limit) l40 c40 k40).binds (ps := ["self"]) fun _ _ _ _ _ _ us hl => match us, hl with | [_], _ => rfl⟩,
    ⟨_, pt41, py41, ⟨_, _, ps41⟩⟩,
    ⟨_, fun_mk (st := s_Keeper_limit__set) l41 c41 k41, (fun_mk (st := s_Keeper_limit__set) l41 c41 k41).binds (ps := ["self", "limit"]) fun _ _ _ _ _ _ us hl => match us, hl with | [_, _], _ => rfl⟩,
    ⟨_, fun_mk (st := s_Keeper_change) l42 c42 k42, (fun_mk (st := s_Keeper_change) l42 c42 k42).binds (ps := ["self", "limit"]) fun _ _ _ _ _ _ us hl => match us, hl with | [_, _], _ => rfl⟩,
    ⟨a42, i42, k42⟩,
    ⟨⟨_, fun_mk (st := s_spot) l43 c43 k43, (fun_mk (st := s_spot) l43 c43 k43).binds (ps := ["_law_box_here"]) fun _ _ _ _ _ _ us hl => match us, hl with | [_], _ => rfl⟩, PySem.W.mg_of X G a43, k43⟩,
    ⟨⟨_, fun_mk (st := s_shown) l44 c44 k44, (fun_mk (st := s_shown) l44 c44 k44).binds (ps := ["_law_box_here", "_law_spec", "_law_spot_here"]) fun _ _ _ _ _ _ us hl => match us, hl with | [_, _, _], _ => rfl⟩, PySem.W.mg_of X G a44, k44⟩,
    ⟨⟨_, fun_mk (st := s_lie) l45 c45 k45, (fun_mk (st := s_lie) l45 c45 k45).binds (ps := ["_law_box_here", "_law_spot_here"]) fun _ _ _ _ _ _ us hl => match us, hl with | [_, _], _ => rfl⟩, PySem.W.mg_of X G a45, k45⟩,
    ⟨⟨_, fun_mk (st := s_farthest) l46 c46 k46, (fun_mk (st := s_farthest) l46 c46 k46).binds (ps := ["_law_kept", "_law_readings"]) fun _ _ _ _ _ _ us hl => match us, hl with | [_, _], _ => rfl⟩, PySem.W.mg_of X G a46, k46⟩,
    ⟨⟨_, fun_mk (st := s_tick) l47 c47 k47, (fun_mk (st := s_tick) l47 c47 k47).binds (ps := ["_law_box_here", "_law_specs_here", "_law_lot", "_law_spot_here"]) fun _ _ _ _ _ _ us hl => match us, hl with | [_, _, _, _], _ => rfl⟩, PySem.W.mg_of X G a47, k47⟩,
    ⟨⟨_, fun_mk (st := s_few) l48 c48 k48, (fun_mk (st := s_few) l48 c48 k48).binds (ps := ["_law_box_here", "_law_words_here"]) fun _ _ _ _ _ _ us hl => match us, hl with | [_, _], _ => rfl⟩, PySem.W.mg_of X G a48, k48⟩,
    ⟨⟨_, fun_mk (st := s_refused) l49 c49 k49, (fun_mk (st := s_refused) l49 c49 k49).binds (ps := ["_law_rack", "_law_keeper", "_law_worth"]) fun _ _ _ _ _ _ us hl => match us, hl with | [_, _, _], _ => rfl⟩, PySem.W.mg_of X G a49, k49⟩,
    ⟨⟨_, fun_mk (st := s_take_told) l50 c50 k50, (fun_mk (st := s_take_told) l50 c50 k50).binds (ps := ["_law_keeper", "_law_readings"]) fun _ _ _ _ _ _ us hl => match us, hl with | [_, _], _ => rfl⟩, PySem.W.mg_of X G a50, k50⟩,
    ⟨⟨_, fun_mk (st := s_law) l51 c51 k51, (fun_mk (st := s_law) l51 c51 k51).binds (ps := ["_law_script"]) fun _ _ _ _ _ _ us hl => match us, hl with | [_], _ => rfl⟩, PySem.W.mg_of X G a51, k51⟩,
    PySem.W.mg_of X G aC_GaugeError,
    ⟨PySem.W.mg_of X G aC_GaugeError, ge_ga, ge_rd, ge_at⟩,
    PySem.W.mg_of X G aC_NoLevel,
    ⟨⟨nmNoLevel, qNoLevel, NNoLevel, bsNoLevel, _, snNoLevel, subNoLevel, abNoLevel, colNoLevel, ddNoLevel, m0NoLevel, m1NoLevel, m2NoLevel, m3NoLevel, m5NoLevel, xL_NoLevel, by rfl⟩, xsa_NoLevel, xeC_NoLevel, xtC_NoLevel, xkC_NoLevel⟩,
    ⟨xga_NoLevel, xgg_NoLevel, xeC_NoLevel, xhC_NoLevel⟩,
    exm_of xeC_NoLevel xic_NoLevel xtC_NoLevel xs_NoLevel_NoLevel,
    PySem.W.mg_of X G aC_Apart,
    ⟨⟨nmApart, qApart, NApart, bsApart, _, snApart, subApart, abApart, colApart, ddApart, m0Apart, m1Apart, m2Apart, m3Apart, m5Apart, xL_Apart, by rfl⟩, xsa_Apart, xeC_Apart, xtC_Apart, xkC_Apart⟩,
    ⟨xga_Apart, xgg_Apart, xeC_Apart, xhC_Apart⟩,
    n_Apart_first,
    n_Apart_second,
    exm_of xeC_NoLevel xic_NoLevel xtC_NoLevel xs_Apart_NoLevel,
    PySem.W.mg_of X G aC_BadLiars,
    ⟨⟨nmBadLiars, qBadLiars, NBadLiars, bsBadLiars, _, snBadLiars, subBadLiars, abBadLiars, colBadLiars, ddBadLiars, m0BadLiars, m1BadLiars, m2BadLiars, m3BadLiars, m5BadLiars, xL_BadLiars, by rfl⟩, xsa_BadLiars, xeC_BadLiars, xtC_BadLiars, xkC_BadLiars⟩,
    ⟨xga_BadLiars, xgg_BadLiars, xeC_BadLiars, xhC_BadLiars⟩,
    n_BadLiars_number,
    PySem.W.mg_of X G aC_BadGauge,
    ⟨⟨nmBadGauge, qBadGauge, NBadGauge, bsBadGauge, _, snBadGauge, subBadGauge, abBadGauge, colBadGauge, ddBadGauge, m0BadGauge, m1BadGauge, m2BadGauge, m3BadGauge, m5BadGauge, xL_BadGauge, by rfl⟩, xsa_BadGauge, xeC_BadGauge, xtC_BadGauge, xkC_BadGauge⟩,
    ⟨xga_BadGauge, xgg_BadGauge, xeC_BadGauge, xhC_BadGauge⟩,
    n_BadGauge_name,
    PySem.W.mg_of X G aC_DuplicateGauge,
    ⟨⟨nmDuplicateGauge, qDuplicateGauge, NDuplicateGauge, bsDuplicateGauge, _, snDuplicateGauge, subDuplicateGauge, abDuplicateGauge, colDuplicateGauge, ddDuplicateGauge, m0DuplicateGauge, m1DuplicateGauge, m2DuplicateGauge, m3DuplicateGauge, m5DuplicateGauge, xL_DuplicateGauge, by rfl⟩, xsa_DuplicateGauge, xeC_DuplicateGauge, xtC_DuplicateGauge, xkC_DuplicateGauge⟩,
    ⟨xga_DuplicateGauge, xgg_DuplicateGauge, xeC_DuplicateGauge, xhC_DuplicateGauge⟩,
    n_DuplicateGauge_name,
    PySem.W.mg_of X G aC_UnknownGauge,
    ⟨⟨nmUnknownGauge, qUnknownGauge, NUnknownGauge, bsUnknownGauge, _, snUnknownGauge, subUnknownGauge, abUnknownGauge, colUnknownGauge, ddUnknownGauge, m0UnknownGauge, m1UnknownGauge, m2UnknownGauge, m3UnknownGauge, m5UnknownGauge, xL_UnknownGauge, by rfl⟩, xsa_UnknownGauge, xeC_UnknownGauge, xtC_UnknownGauge, xkC_UnknownGauge⟩,
    ⟨xga_UnknownGauge, xgg_UnknownGauge, xeC_UnknownGauge, xhC_UnknownGauge⟩,
    n_UnknownGauge_name,
    PySem.W.mg_of X G aC_MissingReading,
    ⟨⟨nmMissingReading, qMissingReading, NMissingReading, bsMissingReading, _, snMissingReading, subMissingReading, abMissingReading, colMissingReading, ddMissingReading, m0MissingReading, m1MissingReading, m2MissingReading, m3MissingReading, m5MissingReading, xL_MissingReading, by rfl⟩, xsa_MissingReading, xeC_MissingReading, xtC_MissingReading, xkC_MissingReading⟩,
    ⟨xga_MissingReading, xgg_MissingReading, xeC_MissingReading, xhC_MissingReading⟩,
    n_MissingReading_name,
    exm_of xeC_MissingReading xic_MissingReading xtC_MissingReading xs_MissingReading_MissingReading,
    PySem.W.mg_of X G aC_BadLimit,
    ⟨⟨nmBadLimit, qBadLimit, NBadLimit, bsBadLimit, _, snBadLimit, subBadLimit, abBadLimit, colBadLimit, ddBadLimit, m0BadLimit, m1BadLimit, m2BadLimit, m3BadLimit, m5BadLimit, xL_BadLimit, by rfl⟩, xsa_BadLimit, xeC_BadLimit, xtC_BadLimit, xkC_BadLimit⟩,
    ⟨xga_BadLimit, xgg_BadLimit, xeC_BadLimit, xhC_BadLimit⟩,
    n_BadLimit_number,
    exm_of xeC_BadLimit xic_BadLimit xtC_BadLimit xs_BadLimit_BadLimit,
    PySem.W.mg_of X G aC_Keeper,
    ⟨pg_Keeper, hd_Keeper, po_Keeper, sa_Keeper⟩,
    ⟨⟨pg_Keeper, hd_Keeper, po_Keeper, sa_Keeper⟩, cc_Keeper, oc_s, oc_t, mo_Keeper⟩,
    n_Keeper__limit,
    n_Keeper__kept,
    n_Keeper__dropped,
    PySem.W.mg_of X G aC_Gauge,
    ⟨pg_Gauge, hd_Gauge, po_Gauge, sa_Gauge⟩,
    ⟨⟨pg_Gauge, hd_Gauge, po_Gauge, sa_Gauge⟩, cc_Gauge, oc_s, oc_t, mo_Gauge⟩,
    n_Gauge_name,
    n_Gauge_radius,
    n_Gauge_step,
    n_Gauge_late,
    n_Gauge_pace,
    PySem.W.mg_of X G aC_CoarseGauge,
    ⟨pg_CoarseGauge, hd_CoarseGauge, po_CoarseGauge, sa_CoarseGauge⟩,
    ⟨⟨pg_CoarseGauge, hd_CoarseGauge, po_CoarseGauge, sa_CoarseGauge⟩, cc_CoarseGauge, oc_s, oc_t, mo_CoarseGauge⟩,
    n_CoarseGauge_name,
    n_CoarseGauge_radius,
    n_CoarseGauge_step,
    n_CoarseGauge_late,
    n_CoarseGauge_pace,
    PySem.W.mg_of X G aC_LateGauge,
    ⟨pg_LateGauge, hd_LateGauge, po_LateGauge, sa_LateGauge⟩,
    ⟨⟨pg_LateGauge, hd_LateGauge, po_LateGauge, sa_LateGauge⟩, cc_LateGauge, oc_s, oc_t, mo_LateGauge⟩,
    n_LateGauge_name,
    n_LateGauge_radius,
    n_LateGauge_step,
    n_LateGauge_late,
    n_LateGauge_pace,
    PySem.W.mg_of X G aC_LateCoarseGauge,
    ⟨pg_LateCoarseGauge, hd_LateCoarseGauge, po_LateCoarseGauge, sa_LateCoarseGauge⟩,
    ⟨⟨pg_LateCoarseGauge, hd_LateCoarseGauge, po_LateCoarseGauge, sa_LateCoarseGauge⟩, cc_LateCoarseGauge, oc_s, oc_t, mo_LateCoarseGauge⟩,
    n_LateCoarseGauge_name,
    n_LateCoarseGauge_radius,
    n_LateCoarseGauge_step,
    n_LateCoarseGauge_late,
    n_LateCoarseGauge_pace,
    PySem.W.mg_of X G aC_Rack,
    ⟨pg_Rack, hd_Rack, po_Rack, sa_Rack⟩,
    ⟨⟨pg_Rack, hd_Rack, po_Rack, sa_Rack⟩, cc_Rack, oc_s, oc_t, mo_Rack⟩,
    n_Rack__gauges,
    n_Rack__faults,
    exm_ofB xeC_MissingReading xic_MissingReading xtC_MissingReading xs_NoLevel_MissingReading,
    ⟨xga_BadLimit, xgg_BadLimit, xeC_BadLimit, xhC_BadLimit, xcc_BadLimit, oc_s, oc_t, xmo_BadLimit⟩,
    kit_own xic_BadLiars xtC_BadLiars xs_BadLimit_BadLiars (.inl xn_BadLimit_BadLiars),
    kit_own xic_GaugeError xtC_GaugeError xs_BadLimit_GaugeError (.inr rfl),
    ⟨xga_MissingReading, xgg_MissingReading, xeC_MissingReading, xhC_MissingReading, xcc_MissingReading, oc_s, oc_t, xmo_MissingReading⟩,
    kit_own xic_UnknownGauge xtC_UnknownGauge xs_MissingReading_UnknownGauge (.inl xn_MissingReading_UnknownGauge),
    ⟨xga_NoLevel, xgg_NoLevel, xeC_NoLevel, xhC_NoLevel, xcc_NoLevel, oc_s, oc_t, xmo_NoLevel⟩,
    kit_own xic_Apart xtC_Apart xs_NoLevel_Apart (.inl xn_NoLevel_Apart),
    ⟨cg_CoarseGauge, cr_CoarseGauge, ca_CoarseGauge, k8⟩,
    ⟨cg_Gauge, cr_Gauge, ca_Gauge, k7⟩,
    ⟨cg_LateGauge, cr_LateGauge, ca_LateGauge, k9⟩,
    ⟨_, PySem.W.mg_of X G kg_BARRED, rfl⟩,
    fun H => .inr ⟨_, _, _, kt_BARRED, rfl, rfl, (show (4 : Nat) ≤ sizeLine by decide), (.cons ⟨_, rfl⟩ (.cons ⟨_, rfl⟩ (.cons ⟨_, rfl⟩ (.cons ⟨_, rfl⟩ .nil))))⟩,
    ⟨_, PySem.W.mg_of X G kg_LETTERS, ⟨_, rfl⟩⟩,
    ⟨cr_Gauge, cg_Gauge⟩,
    ⟨_, kc_Gauge_LONGEST, ⟨_, rfl⟩⟩,
    ⟨_, PySem.W.mg_of X G aC_Gauge, rfl⟩,
    PySem.W.mg_none_of X G z_abs,
    PySem.W.mg_none_of X G z_all,
    PySem.W.mg_none_of X G z_int,
    PySem.W.mg_none_of X G z_isinstance,
    PySem.W.mg_none_of X G z_len,
    PySem.W.mg_none_of X G z_list,
    PySem.W.mg_none_of X G z_max,
    PySem.W.mg_none_of X G z_range,
    PySem.W.mg_none_of X G z_sorted,
    PySem.W.mg_none_of X G z_str,
    PySem.W.mg_none_of X G z_super,
    PySem.W.mg_none_of X G z_tuple⟩
  haveI : MainP l.prog := ⟨xn_file, xn_top⟩
  exact ⟨_, fun s v => .of_eq rfl, fun base _ _ => ok_law' tx (fun_mk (st := s_law) l51 c51 k51)⟩
def ac_GaugeError (K : PySem.W.Frag) : Addr := He.ga K "GaugeError"
def ac_NoLevel (K : PySem.W.Frag) : Addr := He.ga K "NoLevel"
def ac_Apart (K : PySem.W.Frag) : Addr := He.ga K "Apart"
def ac_BadLiars (K : PySem.W.Frag) : Addr := He.ga K "BadLiars"
def ac_BadGauge (K : PySem.W.Frag) : Addr := He.ga K "BadGauge"
def ac_DuplicateGauge (K : PySem.W.Frag) : Addr := He.ga K "DuplicateGauge"
def ac_UnknownGauge (K : PySem.W.Frag) : Addr := He.ga K "UnknownGauge"
def ac_MissingReading (K : PySem.W.Frag) : Addr := He.ga K "MissingReading"
def ac_BadLimit (K : PySem.W.Frag) : Addr := He.ga K "BadLimit"
def ac_Keeper (K : PySem.W.Frag) : Addr := He.ga K "Keeper"
def ac_Gauge (K : PySem.W.Frag) : Addr := He.ga K "Gauge"
def ac_CoarseGauge (K : PySem.W.Frag) : Addr := He.ga K "CoarseGauge"
def ac_LateGauge (K : PySem.W.Frag) : Addr := He.ga K "LateGauge"
def ac_LateCoarseGauge (K : PySem.W.Frag) : Addr := He.ga K "LateCoarseGauge"
def ac_Rack (K : PySem.W.Frag) : Addr := He.ga K "Rack"
def ak_BARRED (K : PySem.W.Frag) : Addr := He.ga K "BARRED"
def af_1 (K : PySem.W.Frag) : Addr := He.ga K "_law_take"
def af_2 (K : PySem.W.Frag) : Addr := He.ga K "_law_box"
def af_3 (K : PySem.W.Frag) : Addr := He.ga K "_law_word"
def af_4 (K : PySem.W.Frag) : Addr := He.ga K "_law_words"
def af_5 (K : PySem.W.Frag) : Addr := He.ga K "is_gauge_name"
def af_6 (K : PySem.W.Frag) : Addr := He.ma K (ac_BadGauge K) "__init__"
def af_7 (K : PySem.W.Frag) : Addr := He.ma K (ac_Gauge K) "__init__"
def af_8 (K : PySem.W.Frag) : Addr := He.ma K (ac_CoarseGauge K) "__init__"
def af_9 (K : PySem.W.Frag) : Addr := He.ma K (ac_LateGauge K) "__init__"
def af_10 (K : PySem.W.Frag) : Addr := He.ma K (ac_LateCoarseGauge K) "__init__"
def af_11 (K : PySem.W.Frag) : Addr := He.ga K "_law_specs"
def af_12 (K : PySem.W.Frag) : Addr := He.ga K "_law_gauge"
def af_13 (K : PySem.W.Frag) : Addr := He.ga K "_law_gauges"
def af_14 (K : PySem.W.Frag) : Addr := He.ga K "_law_slacks"
def af_15 (K : PySem.W.Frag) : Addr := He.ma K (ac_Gauge K) "slack_below"
def af_16 (K : PySem.W.Frag) : Addr := He.ma K (ac_Gauge K) "slack_above"
def af_17 (K : PySem.W.Frag) : Addr := He.ma K (ac_CoarseGauge K) "slack_above"
def acda_17 (K : PySem.W.Frag) : Addr := vAd (fxC K (af_17 K))
def acc_17 (K : PySem.W.Frag) : Addr := fxX K (af_17 K)
def af_18 (K : PySem.W.Frag) : Addr := He.ma K (ac_LateGauge K) "slack_below"
def acda_18 (K : PySem.W.Frag) : Addr := vAd (fxC K (af_18 K))
def acc_18 (K : PySem.W.Frag) : Addr := fxX K (af_18 K)
def af_19 (K : PySem.W.Frag) : Addr := He.ma K (ac_LateGauge K) "slack_above"
def acda_19 (K : PySem.W.Frag) : Addr := vAd (fxC K (af_19 K))
def acc_19 (K : PySem.W.Frag) : Addr := fxX K (af_19 K)
def af_20 (K : PySem.W.Frag) : Addr := He.ma K (ac_DuplicateGauge K) "__init__"
def af_21 (K : PySem.W.Frag) : Addr := He.ma K (ac_UnknownGauge K) "__init__"
def af_22 (K : PySem.W.Frag) : Addr := He.ma K (ac_Rack K) "names"
def af_23 (K : PySem.W.Frag) : Addr := He.ma K (ac_Rack K) "__contains__"
def af_24 (K : PySem.W.Frag) : Addr := He.ma K (ac_Rack K) "gauge"
def af_25 (K : PySem.W.Frag) : Addr := He.ma K (ac_Rack K) "faults"
def af_26 (K : PySem.W.Frag) : Addr := He.ma K (ac_Rack K) "_refuse_unknown"
def af_27 (K : PySem.W.Frag) : Addr := He.ga K "_faults_of"
def af_28 (K : PySem.W.Frag) : Addr := He.ma K (ac_Rack K) "__init__"
def akd_28 (K : PySem.W.Frag) : Addr := vAd (fxK K (af_28 K))
def ak_em_Rack_init (K : PySem.W.Frag) : Addr := nsA K (akd_28 K) "together"
def ap_29 (K : PySem.W.Frag) : Addr := cpA K (ac_Rack K) "of"
def af_29 (K : PySem.W.Frag) : Addr := rf K (ap_29 K) "classmethod"
def akd_29 (K : PySem.W.Frag) : Addr := vAd (fxD K (af_29 K))
def ak_em_Rack_of (K : PySem.W.Frag) : Addr := t1A K (akd_29 K)
def af_30 (K : PySem.W.Frag) : Addr := He.ga K "_without"
def af_31 (K : PySem.W.Frag) : Addr := He.ga K "_farthest"
def af_32 (K : PySem.W.Frag) : Addr := He.ma K (ac_MissingReading K) "__init__"
def af_33 (K : PySem.W.Frag) : Addr := He.ma K (ac_NoLevel K) "__init__"
def af_34 (K : PySem.W.Frag) : Addr := He.ma K (ac_BadLimit K) "__init__"
def af_35 (K : PySem.W.Frag) : Addr := He.ga K "_refuse_limit"
def af_36 (K : PySem.W.Frag) : Addr := He.ma K (ac_Keeper K) "__init__"
def af_37 (K : PySem.W.Frag) : Addr := He.ma K (ac_Keeper K) "kept"
def af_38 (K : PySem.W.Frag) : Addr := He.ma K (ac_Keeper K) "dropped"
def af_39 (K : PySem.W.Frag) : Addr := He.ma K (ac_Keeper K) "take"
def ap_40 (K : PySem.W.Frag) : Addr := He.ma K (ac_Keeper K) "limit"
def af_40 (K : PySem.W.Frag) : Addr := rf K (ap_40 K) "property"
def ap_41 (K : PySem.W.Frag) : Addr := He.ma K (ac_Keeper K) "limit"
def af_41 (K : PySem.W.Frag) : Addr := rfs2 K (ap_41 K) "property"
def af_42 (K : PySem.W.Frag) : Addr := He.ma K (ac_Keeper K) "change"
def af_43 (K : PySem.W.Frag) : Addr := He.ga K "_law_spot"
def af_44 (K : PySem.W.Frag) : Addr := He.ga K "_law_shown"
def af_45 (K : PySem.W.Frag) : Addr := He.ga K "_law_lie"
def af_46 (K : PySem.W.Frag) : Addr := He.ga K "_law_farthest"
def af_47 (K : PySem.W.Frag) : Addr := He.ga K "_law_tick"
def af_48 (K : PySem.W.Frag) : Addr := He.ga K "_law_few"
def af_49 (K : PySem.W.Frag) : Addr := He.ga K "_law_refused"
def af_50 (K : PySem.W.Frag) : Addr := He.ga K "_law_take_told"
def af_51 (K : PySem.W.Frag) : Addr := He.ga K "law"
def ex_0 : List (PySem.W.Frag → Bool) := [
  fun K => decide (PySem.W.nsIn K mainGlobals "GaugeError" = some (some (.ref (ac_GaugeError K)))),
  fun K => decide (PySem.W.nsIn K mainGlobals "NoLevel" = some (some (.ref (ac_NoLevel K)))),
  fun K => decide (PySem.W.nsIn K mainGlobals "Apart" = some (some (.ref (ac_Apart K)))),
  fun K => decide (PySem.W.nsIn K mainGlobals "BadLiars" = some (some (.ref (ac_BadLiars K)))),
  fun K => decide (PySem.W.nsIn K mainGlobals "BadGauge" = some (some (.ref (ac_BadGauge K)))),
  fun K => decide (PySem.W.nsIn K mainGlobals "DuplicateGauge" = some (some (.ref (ac_DuplicateGauge K)))),
  fun K => decide (PySem.W.nsIn K mainGlobals "UnknownGauge" = some (some (.ref (ac_UnknownGauge K)))),
  fun K => decide (PySem.W.nsIn K mainGlobals "MissingReading" = some (some (.ref (ac_MissingReading K)))),
  fun K => decide (PySem.W.nsIn K mainGlobals "BadLimit" = some (some (.ref (ac_BadLimit K)))),
  fun K => decide (PySem.W.nsIn K mainGlobals "Keeper" = some (some (.ref (ac_Keeper K)))),
  fun K => decide (PySem.W.nsIn K mainGlobals "Gauge" = some (some (.ref (ac_Gauge K)))),
  fun K => decide (PySem.W.nsIn K mainGlobals "CoarseGauge" = some (some (.ref (ac_CoarseGauge K)))),
  fun K => decide (PySem.W.nsIn K mainGlobals "LateGauge" = some (some (.ref (ac_LateGauge K)))),
  fun K => decide (PySem.W.nsIn K mainGlobals "LateCoarseGauge" = some (some (.ref (ac_LateCoarseGauge K)))),
  fun K => decide (PySem.W.nsIn K mainGlobals "Rack" = some (some (.ref (ac_Rack K)))),
  fun K => decide (PySem.W.nsIn K mainGlobals "_law_take" = some (some (.ref (af_1 K)))),
  fun K => decide (fxD K (af_1 K) = Value.none),
  fun K => PySem.W.codeIn K (fxC K (af_1 K)) "_law_take",
  fun K => PySem.W.keepIn K (.ref (af_1 K)),
  fun K => decide (PySem.W.nsIn K mainGlobals "_law_box" = some (some (.ref (af_2 K)))),
  fun K => decide (fxD K (af_2 K) = Value.none),
  fun K => PySem.W.codeIn K (fxC K (af_2 K)) "_law_box",
  fun K => PySem.W.keepIn K (.ref (af_2 K)),
  fun K => decide (PySem.W.nsIn K mainGlobals "_law_word" = some (some (.ref (af_3 K)))),
  fun K => decide (fxD K (af_3 K) = Value.none),
  fun K => PySem.W.codeIn K (fxC K (af_3 K)) "_law_word",
  fun K => PySem.W.keepIn K (.ref (af_3 K)),
  fun K => decide (PySem.W.nsIn K mainGlobals "_law_words" = some (some (.ref (af_4 K)))),
  fun K => decide (fxD K (af_4 K) = Value.none),
  fun K => PySem.W.codeIn K (fxC K (af_4 K)) "_law_words",
  fun K => PySem.W.keepIn K (.ref (af_4 K)),
  fun K => decide (PySem.W.nsIn K mainGlobals "is_gauge_name" = some (some (.ref (af_5 K)))),
  fun K => decide (fxD K (af_5 K) = Value.none),
  fun K => PySem.W.codeIn K (fxC K (af_5 K)) "is_gauge_name",
  fun K => PySem.W.keepIn K (.ref (af_5 K)),
  fun K => decide (PySem.W.findIn K (.ref (ac_BadGauge K)) "__init__" = some (some (.ref (af_6 K)))),
  fun K => PySem.W.isFn K (.ref (af_6 K)),
  fun K => decide (fxD K (af_6 K) = Value.none),
  fun K => PySem.W.codeIn K (fxC K (af_6 K)) "BadGauge.__init__",
  fun K => PySem.W.keepIn K (.ref (af_6 K)),
  fun K => decide (PySem.W.typeIn K (.ref (af_6 K)) = some (.type "function")),
  fun K => decide (PySem.W.findIn K (.ref (ac_Gauge K)) "__init__" = some (some (.ref (af_7 K)))),
  fun K => PySem.W.isFn K (.ref (af_7 K)),
  fun K => decide (fxD K (af_7 K) = Value.none),
  fun K => PySem.W.codeIn K (fxC K (af_7 K)) "Gauge.__init__",
  fun K => PySem.W.keepIn K (.ref (af_7 K)),
  fun K => PySem.W.makesIn K (ac_Gauge K),
  fun K => PySem.W.keepIn K (.ref (ac_Gauge K)),
  fun K => decide (PySem.W.findIn K (.ref (ac_CoarseGauge K)) "__init__" = some (some (.ref (af_8 K)))),
  fun K => PySem.W.isFn K (.ref (af_8 K)),
  fun K => decide (fxD K (af_8 K) = Value.none),
  fun K => decide (fxK K (af_8 K) = Value.none),
  fun K => PySem.W.codeIn K (fxC K (af_8 K)) "CoarseGauge.__init__",
  fun K => PySem.W.keepIn K (.ref (af_8 K)),
  fun K => PySem.W.makesIn K (ac_CoarseGauge K),
  fun K => PySem.W.keepIn K (.ref (ac_CoarseGauge K)),
  fun K => decide (PySem.W.findIn K (.ref (ac_LateGauge K)) "__init__" = some (some (.ref (af_9 K)))),
  fun K => PySem.W.isFn K (.ref (af_9 K)),
  fun K => decide (fxD K (af_9 K) = Value.none),
  fun K => decide (fxK K (af_9 K) = Value.none)]
def ex_1 : List (PySem.W.Frag → Bool) := [
  fun K => PySem.W.codeIn K (fxC K (af_9 K)) "LateGauge.__init__",
  fun K => PySem.W.keepIn K (.ref (af_9 K)),
  fun K => PySem.W.makesIn K (ac_LateGauge K),
  fun K => PySem.W.keepIn K (.ref (ac_LateGauge K)),
  fun K => decide (PySem.W.findIn K (.ref (ac_LateCoarseGauge K)) "__init__" = some (some (.ref (af_10 K)))),
  fun K => PySem.W.isFn K (.ref (af_10 K)),
  fun K => decide (fxD K (af_10 K) = Value.none),
  fun K => decide (fxK K (af_10 K) = Value.none),
  fun K => PySem.W.codeIn K (fxC K (af_10 K)) "LateCoarseGauge.__init__",
  fun K => PySem.W.keepIn K (.ref (af_10 K)),
  fun K => PySem.W.makesIn K (ac_LateCoarseGauge K),
  fun K => PySem.W.keepIn K (.ref (ac_LateCoarseGauge K)),
  fun K => decide (PySem.W.nsIn K mainGlobals "_law_specs" = some (some (.ref (af_11 K)))),
  fun K => decide (fxD K (af_11 K) = Value.none),
  fun K => PySem.W.codeIn K (fxC K (af_11 K)) "_law_specs",
  fun K => PySem.W.keepIn K (.ref (af_11 K)),
  fun K => decide (PySem.W.nsIn K mainGlobals "_law_gauge" = some (some (.ref (af_12 K)))),
  fun K => decide (fxD K (af_12 K) = Value.none),
  fun K => PySem.W.codeIn K (fxC K (af_12 K)) "_law_gauge",
  fun K => PySem.W.keepIn K (.ref (af_12 K)),
  fun K => decide (PySem.W.nsIn K mainGlobals "_law_gauges" = some (some (.ref (af_13 K)))),
  fun K => decide (fxD K (af_13 K) = Value.none),
  fun K => PySem.W.codeIn K (fxC K (af_13 K)) "_law_gauges",
  fun K => PySem.W.keepIn K (.ref (af_13 K)),
  fun K => decide (PySem.W.nsIn K mainGlobals "_law_slacks" = some (some (.ref (af_14 K)))),
  fun K => decide (fxD K (af_14 K) = Value.none),
  fun K => PySem.W.codeIn K (fxC K (af_14 K)) "_law_slacks",
  fun K => PySem.W.keepIn K (.ref (af_14 K)),
  fun K => decide (PySem.W.findIn K (.ref (ac_Gauge K)) "slack_below" = some (some (.ref (af_15 K)))),
  fun K => PySem.W.isFn K (.ref (af_15 K)),
  fun K => decide (fxD K (af_15 K) = Value.none),
  fun K => PySem.W.codeIn K (fxC K (af_15 K)) "Gauge.slack_below",
  fun K => PySem.W.keepIn K (.ref (af_15 K)),
  fun K => decide (PySem.W.findIn K (.ref (ac_Gauge K)) "slack_above" = some (some (.ref (af_16 K)))),
  fun K => PySem.W.isFn K (.ref (af_16 K)),
  fun K => decide (fxD K (af_16 K) = Value.none),
  fun K => PySem.W.codeIn K (fxC K (af_16 K)) "Gauge.slack_above",
  fun K => PySem.W.keepIn K (.ref (af_16 K)),
  fun K => decide (PySem.W.findIn K (.ref (ac_CoarseGauge K)) "slack_above" = some (some (.ref (af_17 K)))),
  fun K => PySem.W.isFn K (.ref (af_17 K)),
  fun K => decide (fxD K (af_17 K) = Value.none),
  fun K => decide (fxC K (af_17 K) = Value.ref (acda_17 K)),
  fun K => PySem.W.codeIn K (Value.ref (acda_17 K)) "CoarseGauge.slack_above",
  fun K => PySem.W.keepIn K (.ref (af_17 K)),
  fun K => cfB K (acda_17 K),
  fun K => ceB K (acc_17 K) (ac_CoarseGauge K),
  fun K => clB K (ac_CoarseGauge K),
  fun K => decide (PySem.W.nsIn K cStatics "thirdparty.any" = some none),
  fun K => decide (PySem.W.mroIn K (ac_CoarseGauge K) (.ref (ac_CoarseGauge K)) = some true),
  fun K => decide (PySem.W.ks_superIn K (ac_CoarseGauge K) (ac_CoarseGauge K) "slack_above" = some (some (.ref (af_16 K)))),
  fun K => decide (PySem.W.typeIn K (.ref (af_16 K)) = some (.type "function")),
  fun K => PySem.W.fnIn K (af_16 K),
  fun K => decide (PySem.W.mroIn K (ac_LateCoarseGauge K) (.ref (ac_CoarseGauge K)) = some true),
  fun K => decide (PySem.W.ks_superIn K (ac_LateCoarseGauge K) (ac_CoarseGauge K) "slack_above" = some (some (.ref (af_16 K)))),
  fun K => decide (PySem.W.findIn K (.ref (ac_LateGauge K)) "slack_below" = some (some (.ref (af_18 K)))),
  fun K => PySem.W.isFn K (.ref (af_18 K)),
  fun K => decide (fxD K (af_18 K) = Value.none),
  fun K => decide (fxC K (af_18 K) = Value.ref (acda_18 K)),
  fun K => PySem.W.codeIn K (Value.ref (acda_18 K)) "LateGauge.slack_below",
  fun K => PySem.W.keepIn K (.ref (af_18 K))]
def ex_2 : List (PySem.W.Frag → Bool) := [
  fun K => cfB K (acda_18 K),
  fun K => ceB K (acc_18 K) (ac_LateGauge K),
  fun K => clB K (ac_LateGauge K),
  fun K => decide (PySem.W.mroIn K (ac_LateGauge K) (.ref (ac_LateGauge K)) = some true),
  fun K => decide (PySem.W.ks_superIn K (ac_LateGauge K) (ac_LateGauge K) "slack_below" = some (some (.ref (af_15 K)))),
  fun K => decide (PySem.W.typeIn K (.ref (af_15 K)) = some (.type "function")),
  fun K => PySem.W.fnIn K (af_15 K),
  fun K => decide (PySem.W.mroIn K (ac_LateCoarseGauge K) (.ref (ac_LateGauge K)) = some true),
  fun K => decide (PySem.W.ks_superIn K (ac_LateCoarseGauge K) (ac_LateGauge K) "slack_below" = some (some (.ref (af_15 K)))),
  fun K => decide (PySem.W.findIn K (.ref (ac_LateGauge K)) "slack_above" = some (some (.ref (af_19 K)))),
  fun K => PySem.W.isFn K (.ref (af_19 K)),
  fun K => decide (fxD K (af_19 K) = Value.none),
  fun K => decide (fxC K (af_19 K) = Value.ref (acda_19 K)),
  fun K => PySem.W.codeIn K (Value.ref (acda_19 K)) "LateGauge.slack_above",
  fun K => PySem.W.keepIn K (.ref (af_19 K)),
  fun K => cfB K (acda_19 K),
  fun K => ceB K (acc_19 K) (ac_LateGauge K),
  fun K => clB K (ac_LateGauge K),
  fun K => decide (PySem.W.mroIn K (ac_LateGauge K) (.ref (ac_LateGauge K)) = some true),
  fun K => decide (PySem.W.ks_superIn K (ac_LateGauge K) (ac_LateGauge K) "slack_above" = some (some (.ref (af_16 K)))),
  fun K => decide (PySem.W.mroIn K (ac_LateCoarseGauge K) (.ref (ac_LateGauge K)) = some true),
  fun K => decide (PySem.W.ks_superIn K (ac_LateCoarseGauge K) (ac_LateGauge K) "slack_above" = some (some (.ref (af_17 K)))),
  fun K => decide (PySem.W.typeIn K (.ref (af_17 K)) = some (.type "function")),
  fun K => PySem.W.fnIn K (af_17 K),
  fun K => decide (PySem.W.findIn K (.ref (ac_DuplicateGauge K)) "__init__" = some (some (.ref (af_20 K)))),
  fun K => PySem.W.isFn K (.ref (af_20 K)),
  fun K => decide (fxD K (af_20 K) = Value.none),
  fun K => PySem.W.codeIn K (fxC K (af_20 K)) "DuplicateGauge.__init__",
  fun K => PySem.W.keepIn K (.ref (af_20 K)),
  fun K => decide (PySem.W.typeIn K (.ref (af_20 K)) = some (.type "function")),
  fun K => decide (PySem.W.findIn K (.ref (ac_UnknownGauge K)) "__init__" = some (some (.ref (af_21 K)))),
  fun K => PySem.W.isFn K (.ref (af_21 K)),
  fun K => decide (fxD K (af_21 K) = Value.none),
  fun K => PySem.W.codeIn K (fxC K (af_21 K)) "UnknownGauge.__init__",
  fun K => PySem.W.keepIn K (.ref (af_21 K)),
  fun K => decide (PySem.W.typeIn K (.ref (af_21 K)) = some (.type "function")),
  fun K => decide (PySem.W.findIn K (.ref (ac_Rack K)) "names" = some (some (.ref (af_22 K)))),
  fun K => PySem.W.isFn K (.ref (af_22 K)),
  fun K => decide (fxD K (af_22 K) = Value.none),
  fun K => PySem.W.codeIn K (fxC K (af_22 K)) "Rack.names",
  fun K => PySem.W.keepIn K (.ref (af_22 K)),
  fun K => decide (PySem.W.findIn K (.ref (ac_Rack K)) "__contains__" = some (some (.ref (af_23 K)))),
  fun K => PySem.W.isFn K (.ref (af_23 K)),
  fun K => decide (fxD K (af_23 K) = Value.none),
  fun K => PySem.W.codeIn K (fxC K (af_23 K)) "Rack.__contains__",
  fun K => PySem.W.keepIn K (.ref (af_23 K)),
  fun K => decide (PySem.W.findIn K (.ref (ac_Rack K)) "gauge" = some (some (.ref (af_24 K)))),
  fun K => PySem.W.isFn K (.ref (af_24 K)),
  fun K => decide (fxD K (af_24 K) = Value.none),
  fun K => PySem.W.codeIn K (fxC K (af_24 K)) "Rack.gauge",
  fun K => PySem.W.keepIn K (.ref (af_24 K)),
  fun K => decide (PySem.W.findIn K (.ref (ac_Rack K)) "faults" = some (some (.ref (af_25 K)))),
  fun K => PySem.W.isFn K (.ref (af_25 K)),
  fun K => decide (fxD K (af_25 K) = Value.none),
  fun K => PySem.W.codeIn K (fxC K (af_25 K)) "Rack.faults",
  fun K => PySem.W.keepIn K (.ref (af_25 K)),
  fun K => decide (PySem.W.findIn K (.ref (ac_Rack K)) "_refuse_unknown" = some (some (.ref (af_26 K)))),
  fun K => PySem.W.isFn K (.ref (af_26 K)),
  fun K => decide (fxD K (af_26 K) = Value.none),
  fun K => PySem.W.codeIn K (fxC K (af_26 K)) "Rack._refuse_unknown"]
def ex_3 : List (PySem.W.Frag → Bool) := [
  fun K => PySem.W.keepIn K (.ref (af_26 K)),
  fun K => decide (PySem.W.nsIn K mainGlobals "_faults_of" = some (some (.ref (af_27 K)))),
  fun K => decide (fxD K (af_27 K) = Value.none),
  fun K => PySem.W.codeIn K (fxC K (af_27 K)) "_faults_of",
  fun K => PySem.W.keepIn K (.ref (af_27 K)),
  fun K => decide (PySem.W.findIn K (.ref (ac_Rack K)) "__init__" = some (some (.ref (af_28 K)))),
  fun K => PySem.W.isFn K (.ref (af_28 K)),
  fun K => decide (fxD K (af_28 K) = Value.none),
  fun K => decide (fxK K (af_28 K) = Value.ref (akd_28 K)),
  fun K => PySem.W.codeIn K (fxC K (af_28 K)) "Rack.__init__",
  fun K => PySem.W.keepIn K (.ref (af_28 K)),
  fun K => decide (PySem.W.nsIn K (akd_28 K) "together" = some (some (.ref (ak_em_Rack_init K)))),
  fun K => t0B K (ak_em_Rack_init K),
  fun K => PySem.W.makesIn K (ac_Rack K),
  fun K => PySem.W.keepIn K (.ref (ac_Rack K)),
  fun K => decide (PySem.W.specialIn K (.ref (ac_Rack K)) "__getattribute__" = some (some (.builtin "type.__getattribute__"))),
  fun K => PySem.W.readsIn K (ac_Rack K) (.type "type"),
  fun K => cgB K (ac_Rack K) "classmethod.__get__" "of",
  fun K => recB K (ap_29 K) "classmethod" (af_29 K),
  fun K => PySem.W.fnIn K (af_29 K),
  fun K => decide (fxD K (af_29 K) = Value.ref (akd_29 K)),
  fun K => PySem.W.codeIn K (fxC K (af_29 K)) "Rack.of",
  fun K => PySem.W.keepIn K (.ref (af_29 K)),
  fun K => t1B K (akd_29 K) (ak_em_Rack_of K),
  fun K => t0B K (ak_em_Rack_of K),
  fun K => decide (PySem.W.nsIn K mainGlobals "_without" = some (some (.ref (af_30 K)))),
  fun K => decide (fxD K (af_30 K) = Value.none),
  fun K => PySem.W.codeIn K (fxC K (af_30 K)) "_without",
  fun K => PySem.W.keepIn K (.ref (af_30 K)),
  fun K => decide (PySem.W.nsIn K mainGlobals "_farthest" = some (some (.ref (af_31 K)))),
  fun K => decide (fxD K (af_31 K) = Value.none),
  fun K => PySem.W.codeIn K (fxC K (af_31 K)) "_farthest",
  fun K => PySem.W.keepIn K (.ref (af_31 K)),
  fun K => decide (PySem.W.findIn K (.ref (ac_MissingReading K)) "__init__" = some (some (.ref (af_32 K)))),
  fun K => PySem.W.isFn K (.ref (af_32 K)),
  fun K => decide (fxD K (af_32 K) = Value.none),
  fun K => PySem.W.codeIn K (fxC K (af_32 K)) "MissingReading.__init__",
  fun K => PySem.W.keepIn K (.ref (af_32 K)),
  fun K => decide (PySem.W.typeIn K (.ref (af_32 K)) = some (.type "function")),
  fun K => decide (PySem.W.findIn K (.ref (ac_NoLevel K)) "__init__" = some (some (.ref (af_33 K)))),
  fun K => PySem.W.isFn K (.ref (af_33 K)),
  fun K => decide (fxD K (af_33 K) = Value.none),
  fun K => PySem.W.codeIn K (fxC K (af_33 K)) "NoLevel.__init__",
  fun K => PySem.W.keepIn K (.ref (af_33 K)),
  fun K => decide (PySem.W.typeIn K (.ref (af_33 K)) = some (.type "function")),
  fun K => decide (PySem.W.findIn K (.ref (ac_BadLimit K)) "__init__" = some (some (.ref (af_34 K)))),
  fun K => PySem.W.isFn K (.ref (af_34 K)),
  fun K => decide (fxD K (af_34 K) = Value.none),
  fun K => PySem.W.codeIn K (fxC K (af_34 K)) "BadLimit.__init__",
  fun K => PySem.W.keepIn K (.ref (af_34 K)),
  fun K => decide (PySem.W.typeIn K (.ref (af_34 K)) = some (.type "function")),
  fun K => decide (PySem.W.nsIn K mainGlobals "_refuse_limit" = some (some (.ref (af_35 K)))),
  fun K => decide (fxD K (af_35 K) = Value.none),
  fun K => PySem.W.codeIn K (fxC K (af_35 K)) "_refuse_limit",
  fun K => PySem.W.keepIn K (.ref (af_35 K)),
  fun K => decide (PySem.W.findIn K (.ref (ac_Keeper K)) "__init__" = some (some (.ref (af_36 K)))),
  fun K => PySem.W.isFn K (.ref (af_36 K)),
  fun K => decide (fxD K (af_36 K) = Value.none),
  fun K => PySem.W.codeIn K (fxC K (af_36 K)) "Keeper.__init__",
  fun K => PySem.W.keepIn K (.ref (af_36 K))]
def ex_4 : List (PySem.W.Frag → Bool) := [
  fun K => PySem.W.makesIn K (ac_Keeper K),
  fun K => PySem.W.keepIn K (.ref (ac_Keeper K)),
  fun K => decide (PySem.W.findIn K (.ref (ac_Keeper K)) "kept" = some (some (.ref (af_37 K)))),
  fun K => PySem.W.isFn K (.ref (af_37 K)),
  fun K => decide (fxD K (af_37 K) = Value.none),
  fun K => PySem.W.codeIn K (fxC K (af_37 K)) "Keeper.kept",
  fun K => PySem.W.keepIn K (.ref (af_37 K)),
  fun K => decide (PySem.W.findIn K (.ref (ac_Keeper K)) "dropped" = some (some (.ref (af_38 K)))),
  fun K => PySem.W.isFn K (.ref (af_38 K)),
  fun K => decide (fxD K (af_38 K) = Value.none),
  fun K => PySem.W.codeIn K (fxC K (af_38 K)) "Keeper.dropped",
  fun K => PySem.W.keepIn K (.ref (af_38 K)),
  fun K => decide (PySem.W.findIn K (.ref (ac_Keeper K)) "take" = some (some (.ref (af_39 K)))),
  fun K => PySem.W.isFn K (.ref (af_39 K)),
  fun K => decide (fxD K (af_39 K) = Value.none),
  fun K => PySem.W.codeIn K (fxC K (af_39 K)) "Keeper.take",
  fun K => PySem.W.keepIn K (.ref (af_39 K)),
  fun K => decide (PySem.W.findIn K (.ref (ac_Keeper K)) "limit" = some (some (.ref (ap_40 K)))),
  fun K => decide (PySem.W.specialIn K (.ref (ap_40 K)) "__get__" = some (some (.builtin "property.__get__"))),
  fun K => decide (PySem.W.takesIn K (.ref (ap_40 K)) = some true),
  fun K => recB K (ap_40 K) "property" (af_40 K),
  fun K => decide (fxD K (af_40 K) = Value.none),
  fun K => PySem.W.codeIn K (fxC K (af_40 K)) "Keeper.limit",
  fun K => PySem.W.keepIn K (.ref (af_40 K)),
  fun K => decide (PySem.W.takerIn K (ac_Keeper K) "limit" = some (some (.ref (ap_41 K)))),
  fun K => decide (PySem.W.typeIn K (.ref (ap_41 K)) = some (.type "property")),
  fun K => recB2 K (ap_41 K) "property" (af_41 K),
  fun K => decide (fxD K (af_41 K) = Value.none),
  fun K => PySem.W.codeIn K (fxC K (af_41 K)) "Keeper.limit",
  fun K => PySem.W.keepIn K (.ref (af_41 K)),
  fun K => decide (PySem.W.findIn K (.ref (ac_Keeper K)) "change" = some (some (.ref (af_42 K)))),
  fun K => PySem.W.isFn K (.ref (af_42 K)),
  fun K => decide (fxD K (af_42 K) = Value.none),
  fun K => PySem.W.codeIn K (fxC K (af_42 K)) "Keeper.change",
  fun K => PySem.W.keepIn K (.ref (af_42 K)),
  fun K => decide (PySem.W.nsIn K mainGlobals "_law_spot" = some (some (.ref (af_43 K)))),
  fun K => decide (fxD K (af_43 K) = Value.none),
  fun K => PySem.W.codeIn K (fxC K (af_43 K)) "_law_spot",
  fun K => PySem.W.keepIn K (.ref (af_43 K)),
  fun K => decide (PySem.W.nsIn K mainGlobals "_law_shown" = some (some (.ref (af_44 K)))),
  fun K => decide (fxD K (af_44 K) = Value.none),
  fun K => PySem.W.codeIn K (fxC K (af_44 K)) "_law_shown",
  fun K => PySem.W.keepIn K (.ref (af_44 K)),
  fun K => decide (PySem.W.nsIn K mainGlobals "_law_lie" = some (some (.ref (af_45 K)))),
  fun K => decide (fxD K (af_45 K) = Value.none),
  fun K => PySem.W.codeIn K (fxC K (af_45 K)) "_law_lie",
  fun K => PySem.W.keepIn K (.ref (af_45 K)),
  fun K => decide (PySem.W.nsIn K mainGlobals "_law_farthest" = some (some (.ref (af_46 K)))),
  fun K => decide (fxD K (af_46 K) = Value.none),
  fun K => PySem.W.codeIn K (fxC K (af_46 K)) "_law_farthest",
  fun K => PySem.W.keepIn K (.ref (af_46 K)),
  fun K => decide (PySem.W.nsIn K mainGlobals "_law_tick" = some (some (.ref (af_47 K)))),
  fun K => decide (fxD K (af_47 K) = Value.none),
  fun K => PySem.W.codeIn K (fxC K (af_47 K)) "_law_tick",
  fun K => PySem.W.keepIn K (.ref (af_47 K)),
  fun K => decide (PySem.W.nsIn K mainGlobals "_law_few" = some (some (.ref (af_48 K)))),
  fun K => decide (fxD K (af_48 K) = Value.none),
  fun K => PySem.W.codeIn K (fxC K (af_48 K)) "_law_few",
  fun K => PySem.W.keepIn K (.ref (af_48 K)),
  fun K => decide (PySem.W.nsIn K mainGlobals "_law_refused" = some (some (.ref (af_49 K))))]
def ex_5 : List (PySem.W.Frag → Bool) := [
  fun K => decide (fxD K (af_49 K) = Value.none),
  fun K => PySem.W.codeIn K (fxC K (af_49 K)) "_law_refused",
  fun K => PySem.W.keepIn K (.ref (af_49 K)),
  fun K => decide (PySem.W.nsIn K mainGlobals "_law_take_told" = some (some (.ref (af_50 K)))),
  fun K => decide (fxD K (af_50 K) = Value.none),
  fun K => PySem.W.codeIn K (fxC K (af_50 K)) "_law_take_told",
  fun K => PySem.W.keepIn K (.ref (af_50 K)),
  fun K => decide (PySem.W.nsIn K mainGlobals "law" = some (some (.ref (af_51 K)))),
  fun K => decide (fxD K (af_51 K) = Value.none),
  fun K => PySem.W.codeIn K (fxC K (af_51 K)) "law",
  fun K => PySem.W.keepIn K (.ref (af_51 K)),
  fun K => decide (PySem.W.specialIn K (.ref (ac_GaugeError K)) "__getattribute__" = some (some (.builtin "type.__getattribute__"))),
  fun K => PySem.W.readsIn K (ac_GaugeError K) (.type "type"),
  fun K => cbB K (ac_GaugeError K) "__init__" "ValueError.__init__",
  fun K => exB K (ac_NoLevel K) [.ref (ac_GaugeError K), .type "ValueError", .type "Exception", .type "BaseException", .type "object"],
  fun K => decide (PySem.W.findIn K (.ref (ac_NoLevel K)) "__setattr__" = some (some (.builtin "object.__setattr__"))),
  fun K => decide (PySem.W.findIn K (.ref (ac_NoLevel K)) "__getattribute__" = some (some (.builtin "BaseException.__getattribute__"))),
  fun K => decide (PySem.W.findIn K (.ref (ac_NoLevel K)) "__getattr__" = some none),
  fun K => PySem.W.keepIn K (.ref (ac_NoLevel K)),
  fun K => decide (PySem.W.subIn K (.ref (ac_NoLevel K)) (.type "BaseException") = some true),
  fun K => decide (PySem.W.typeIn K (.ref (ac_NoLevel K)) = some (.type "type")),
  fun K => PySem.W.hasDictIn K (ac_NoLevel K),
  fun K => PySem.W.isClsIn K (ac_NoLevel K),
  fun K => decide (PySem.W.subIn K (.ref (ac_NoLevel K)) (.ref (ac_NoLevel K)) = some true),
  fun K => exB K (ac_Apart K) [.ref (ac_NoLevel K), .ref (ac_GaugeError K), .type "ValueError", .type "Exception", .type "BaseException", .type "object"],
  fun K => decide (PySem.W.findIn K (.ref (ac_Apart K)) "__setattr__" = some (some (.builtin "object.__setattr__"))),
  fun K => decide (PySem.W.findIn K (.ref (ac_Apart K)) "__getattribute__" = some (some (.builtin "BaseException.__getattribute__"))),
  fun K => decide (PySem.W.findIn K (.ref (ac_Apart K)) "__getattr__" = some none),
  fun K => PySem.W.keepIn K (.ref (ac_Apart K)),
  fun K => decide (PySem.W.subIn K (.ref (ac_Apart K)) (.type "BaseException") = some true),
  fun K => decide (PySem.W.typeIn K (.ref (ac_Apart K)) = some (.type "type")),
  fun K => PySem.W.hasDictIn K (ac_Apart K),
  fun K => PySem.W.isClsIn K (ac_Apart K),
  fun K => decide (PySem.W.findIn K (.ref (ac_Apart K)) "first" = some none),
  fun K => decide (PySem.W.findIn K (.ref (ac_Apart K)) "second" = some none),
  fun K => decide (PySem.W.subIn K (.ref (ac_Apart K)) (.ref (ac_NoLevel K)) = some true),
  fun K => exB K (ac_BadLiars K) [.ref (ac_GaugeError K), .type "ValueError", .type "Exception", .type "BaseException", .type "object"],
  fun K => decide (PySem.W.findIn K (.ref (ac_BadLiars K)) "__setattr__" = some (some (.builtin "object.__setattr__"))),
  fun K => decide (PySem.W.findIn K (.ref (ac_BadLiars K)) "__getattribute__" = some (some (.builtin "BaseException.__getattribute__"))),
  fun K => decide (PySem.W.findIn K (.ref (ac_BadLiars K)) "__getattr__" = some none),
  fun K => PySem.W.keepIn K (.ref (ac_BadLiars K)),
  fun K => decide (PySem.W.subIn K (.ref (ac_BadLiars K)) (.type "BaseException") = some true),
  fun K => decide (PySem.W.typeIn K (.ref (ac_BadLiars K)) = some (.type "type")),
  fun K => PySem.W.hasDictIn K (ac_BadLiars K),
  fun K => PySem.W.isClsIn K (ac_BadLiars K),
  fun K => decide (PySem.W.findIn K (.ref (ac_BadLiars K)) "number" = some none),
  fun K => exB K (ac_BadGauge K) [.ref (ac_GaugeError K), .type "ValueError", .type "Exception", .type "BaseException", .type "object"],
  fun K => decide (PySem.W.findIn K (.ref (ac_BadGauge K)) "__setattr__" = some (some (.builtin "object.__setattr__"))),
  fun K => decide (PySem.W.findIn K (.ref (ac_BadGauge K)) "__getattribute__" = some (some (.builtin "BaseException.__getattribute__"))),
  fun K => decide (PySem.W.findIn K (.ref (ac_BadGauge K)) "__getattr__" = some none),
  fun K => PySem.W.keepIn K (.ref (ac_BadGauge K)),
  fun K => decide (PySem.W.subIn K (.ref (ac_BadGauge K)) (.type "BaseException") = some true),
  fun K => decide (PySem.W.typeIn K (.ref (ac_BadGauge K)) = some (.type "type")),
  fun K => PySem.W.hasDictIn K (ac_BadGauge K),
  fun K => PySem.W.isClsIn K (ac_BadGauge K),
  fun K => decide (PySem.W.findIn K (.ref (ac_BadGauge K)) "name" = some none),
  fun K => exB K (ac_DuplicateGauge K) [.ref (ac_GaugeError K), .type "ValueError", .type "Exception", .type "BaseException", .type "object"],
  fun K => decide (PySem.W.findIn K (.ref (ac_DuplicateGauge K)) "__setattr__" = some (some (.builtin "object.__setattr__"))),
  fun K => decide (PySem.W.findIn K (.ref (ac_DuplicateGauge K)) "__getattribute__" = some (some (.builtin "BaseException.__getattribute__"))),
  fun K => decide (PySem.W.findIn K (.ref (ac_DuplicateGauge K)) "__getattr__" = some none)]
def ex_6 : List (PySem.W.Frag → Bool) := [
  fun K => PySem.W.keepIn K (.ref (ac_DuplicateGauge K)),
  fun K => decide (PySem.W.subIn K (.ref (ac_DuplicateGauge K)) (.type "BaseException") = some true),
  fun K => decide (PySem.W.typeIn K (.ref (ac_DuplicateGauge K)) = some (.type "type")),
  fun K => PySem.W.hasDictIn K (ac_DuplicateGauge K),
  fun K => PySem.W.isClsIn K (ac_DuplicateGauge K),
  fun K => decide (PySem.W.findIn K (.ref (ac_DuplicateGauge K)) "name" = some none),
  fun K => exB K (ac_UnknownGauge K) [.ref (ac_GaugeError K), .type "ValueError", .type "Exception", .type "BaseException", .type "object"],
  fun K => decide (PySem.W.findIn K (.ref (ac_UnknownGauge K)) "__setattr__" = some (some (.builtin "object.__setattr__"))),
  fun K => decide (PySem.W.findIn K (.ref (ac_UnknownGauge K)) "__getattribute__" = some (some (.builtin "BaseException.__getattribute__"))),
  fun K => decide (PySem.W.findIn K (.ref (ac_UnknownGauge K)) "__getattr__" = some none),
  fun K => PySem.W.keepIn K (.ref (ac_UnknownGauge K)),
  fun K => decide (PySem.W.subIn K (.ref (ac_UnknownGauge K)) (.type "BaseException") = some true),
  fun K => decide (PySem.W.typeIn K (.ref (ac_UnknownGauge K)) = some (.type "type")),
  fun K => PySem.W.hasDictIn K (ac_UnknownGauge K),
  fun K => PySem.W.isClsIn K (ac_UnknownGauge K),
  fun K => decide (PySem.W.findIn K (.ref (ac_UnknownGauge K)) "name" = some none),
  fun K => exB K (ac_MissingReading K) [.ref (ac_GaugeError K), .type "ValueError", .type "Exception", .type "BaseException", .type "object"],
  fun K => decide (PySem.W.findIn K (.ref (ac_MissingReading K)) "__setattr__" = some (some (.builtin "object.__setattr__"))),
  fun K => decide (PySem.W.findIn K (.ref (ac_MissingReading K)) "__getattribute__" = some (some (.builtin "BaseException.__getattribute__"))),
  fun K => decide (PySem.W.findIn K (.ref (ac_MissingReading K)) "__getattr__" = some none),
  fun K => PySem.W.keepIn K (.ref (ac_MissingReading K)),
  fun K => decide (PySem.W.subIn K (.ref (ac_MissingReading K)) (.type "BaseException") = some true),
  fun K => decide (PySem.W.typeIn K (.ref (ac_MissingReading K)) = some (.type "type")),
  fun K => PySem.W.hasDictIn K (ac_MissingReading K),
  fun K => PySem.W.isClsIn K (ac_MissingReading K),
  fun K => decide (PySem.W.findIn K (.ref (ac_MissingReading K)) "name" = some none),
  fun K => decide (PySem.W.subIn K (.ref (ac_MissingReading K)) (.ref (ac_MissingReading K)) = some true),
  fun K => exB K (ac_BadLimit K) [.ref (ac_GaugeError K), .type "ValueError", .type "Exception", .type "BaseException", .type "object"],
  fun K => decide (PySem.W.findIn K (.ref (ac_BadLimit K)) "__setattr__" = some (some (.builtin "object.__setattr__"))),
  fun K => decide (PySem.W.findIn K (.ref (ac_BadLimit K)) "__getattribute__" = some (some (.builtin "BaseException.__getattribute__"))),
  fun K => decide (PySem.W.findIn K (.ref (ac_BadLimit K)) "__getattr__" = some none),
  fun K => PySem.W.keepIn K (.ref (ac_BadLimit K)),
  fun K => decide (PySem.W.subIn K (.ref (ac_BadLimit K)) (.type "BaseException") = some true),
  fun K => decide (PySem.W.typeIn K (.ref (ac_BadLimit K)) = some (.type "type")),
  fun K => PySem.W.hasDictIn K (ac_BadLimit K),
  fun K => PySem.W.isClsIn K (ac_BadLimit K),
  fun K => decide (PySem.W.findIn K (.ref (ac_BadLimit K)) "number" = some none),
  fun K => decide (PySem.W.subIn K (.ref (ac_BadLimit K)) (.ref (ac_BadLimit K)) = some true),
  fun K => PySem.W.plainGet K (ac_Keeper K) Str.empty,
  fun K => PySem.W.hasDictIn K (ac_Keeper K),
  fun K => PySem.W.plainOver K (ac_Keeper K),
  fun K => decide (PySem.W.findIn K (.ref (ac_Keeper K)) "__setattr__" = some (some (.builtin "object.__setattr__"))),
  fun K => decide (PySem.W.findIn K (.ref (ac_Keeper K)) "__class__" = some (some (.builtin "object.__class__"))),
  fun K => decide (PySem.W.specialIn K (.builtin "object.__class__") "__get__" = some (some (.builtin "getset_descriptor.__get__"))),
  fun K => decide (PySem.W.takesIn K (.builtin "object.__class__") = some true),
  fun K => decide (PySem.W.mroIn K (ac_Keeper K) (.type "object") = some true),
  fun K => decide (PySem.W.findIn K (.ref (ac_Keeper K)) "_limit" = some none),
  fun K => decide (PySem.W.findIn K (.ref (ac_Keeper K)) "_kept" = some none),
  fun K => decide (PySem.W.findIn K (.ref (ac_Keeper K)) "_dropped" = some none),
  fun K => PySem.W.plainGet K (ac_Gauge K) Str.empty,
  fun K => PySem.W.hasDictIn K (ac_Gauge K),
  fun K => PySem.W.plainOver K (ac_Gauge K),
  fun K => decide (PySem.W.findIn K (.ref (ac_Gauge K)) "__setattr__" = some (some (.builtin "object.__setattr__"))),
  fun K => decide (PySem.W.findIn K (.ref (ac_Gauge K)) "__class__" = some (some (.builtin "object.__class__"))),
  fun K => decide (PySem.W.mroIn K (ac_Gauge K) (.type "object") = some true),
  fun K => decide (PySem.W.findIn K (.ref (ac_Gauge K)) "name" = some none),
  fun K => decide (PySem.W.findIn K (.ref (ac_Gauge K)) "radius" = some none),
  fun K => decide (PySem.W.findIn K (.ref (ac_Gauge K)) "step" = some none),
  fun K => decide (PySem.W.findIn K (.ref (ac_Gauge K)) "late" = some none),
  fun K => decide (PySem.W.findIn K (.ref (ac_Gauge K)) "pace" = some none)]
def ex_7 : List (PySem.W.Frag → Bool) := [
  fun K => PySem.W.plainGet K (ac_CoarseGauge K) Str.empty,
  fun K => PySem.W.hasDictIn K (ac_CoarseGauge K),
  fun K => PySem.W.plainOver K (ac_CoarseGauge K),
  fun K => decide (PySem.W.findIn K (.ref (ac_CoarseGauge K)) "__setattr__" = some (some (.builtin "object.__setattr__"))),
  fun K => decide (PySem.W.findIn K (.ref (ac_CoarseGauge K)) "__class__" = some (some (.builtin "object.__class__"))),
  fun K => decide (PySem.W.mroIn K (ac_CoarseGauge K) (.type "object") = some true),
  fun K => decide (PySem.W.findIn K (.ref (ac_CoarseGauge K)) "name" = some none),
  fun K => decide (PySem.W.findIn K (.ref (ac_CoarseGauge K)) "radius" = some none),
  fun K => decide (PySem.W.findIn K (.ref (ac_CoarseGauge K)) "step" = some none),
  fun K => decide (PySem.W.findIn K (.ref (ac_CoarseGauge K)) "late" = some none),
  fun K => decide (PySem.W.findIn K (.ref (ac_CoarseGauge K)) "pace" = some none),
  fun K => PySem.W.plainGet K (ac_LateGauge K) Str.empty,
  fun K => PySem.W.hasDictIn K (ac_LateGauge K),
  fun K => PySem.W.plainOver K (ac_LateGauge K),
  fun K => decide (PySem.W.findIn K (.ref (ac_LateGauge K)) "__setattr__" = some (some (.builtin "object.__setattr__"))),
  fun K => decide (PySem.W.findIn K (.ref (ac_LateGauge K)) "__class__" = some (some (.builtin "object.__class__"))),
  fun K => decide (PySem.W.mroIn K (ac_LateGauge K) (.type "object") = some true),
  fun K => decide (PySem.W.findIn K (.ref (ac_LateGauge K)) "name" = some none),
  fun K => decide (PySem.W.findIn K (.ref (ac_LateGauge K)) "radius" = some none),
  fun K => decide (PySem.W.findIn K (.ref (ac_LateGauge K)) "step" = some none),
  fun K => decide (PySem.W.findIn K (.ref (ac_LateGauge K)) "late" = some none),
  fun K => decide (PySem.W.findIn K (.ref (ac_LateGauge K)) "pace" = some none),
  fun K => PySem.W.plainGet K (ac_LateCoarseGauge K) Str.empty,
  fun K => PySem.W.hasDictIn K (ac_LateCoarseGauge K),
  fun K => PySem.W.plainOver K (ac_LateCoarseGauge K),
  fun K => decide (PySem.W.findIn K (.ref (ac_LateCoarseGauge K)) "__setattr__" = some (some (.builtin "object.__setattr__"))),
  fun K => decide (PySem.W.findIn K (.ref (ac_LateCoarseGauge K)) "__class__" = some (some (.builtin "object.__class__"))),
  fun K => decide (PySem.W.mroIn K (ac_LateCoarseGauge K) (.type "object") = some true),
  fun K => decide (PySem.W.findIn K (.ref (ac_LateCoarseGauge K)) "name" = some none),
  fun K => decide (PySem.W.findIn K (.ref (ac_LateCoarseGauge K)) "radius" = some none),
  fun K => decide (PySem.W.findIn K (.ref (ac_LateCoarseGauge K)) "step" = some none),
  fun K => decide (PySem.W.findIn K (.ref (ac_LateCoarseGauge K)) "late" = some none),
  fun K => decide (PySem.W.findIn K (.ref (ac_LateCoarseGauge K)) "pace" = some none),
  fun K => PySem.W.plainGet K (ac_Rack K) Str.empty,
  fun K => PySem.W.hasDictIn K (ac_Rack K),
  fun K => PySem.W.plainOver K (ac_Rack K),
  fun K => decide (PySem.W.findIn K (.ref (ac_Rack K)) "__setattr__" = some (some (.builtin "object.__setattr__"))),
  fun K => decide (PySem.W.findIn K (.ref (ac_Rack K)) "__class__" = some (some (.builtin "object.__class__"))),
  fun K => decide (PySem.W.mroIn K (ac_Rack K) (.type "object") = some true),
  fun K => decide (PySem.W.findIn K (.ref (ac_Rack K)) "_gauges" = some none),
  fun K => decide (PySem.W.findIn K (.ref (ac_Rack K)) "_faults" = some none),
  fun K => decide (PySem.W.subIn K (.ref (ac_NoLevel K)) (.ref (ac_MissingReading K)) = some false),
  fun K => decide (PySem.W.findIn K (.ref (ac_BadLimit K)) "__class__" = some (some (.builtin "object.__class__"))),
  fun K => decide (PySem.W.mroIn K (ac_BadLimit K) (.type "object") = some true),
  fun K => decide (PySem.W.subIn K (.ref (ac_BadLimit K)) (.ref (ac_BadLiars K)) = some false),
  fun K => decide ((Value.ref (ac_BadLimit K) == Value.ref (ac_BadLiars K)) = false),
  fun K => PySem.W.isClsIn K (ac_GaugeError K),
  fun K => decide (PySem.W.typeIn K (.ref (ac_GaugeError K)) = some (.type "type")),
  fun K => decide (PySem.W.subIn K (.ref (ac_BadLimit K)) (.ref (ac_GaugeError K)) = some true),
  fun K => decide (PySem.W.findIn K (.ref (ac_MissingReading K)) "__class__" = some (some (.builtin "object.__class__"))),
  fun K => decide (PySem.W.mroIn K (ac_MissingReading K) (.type "object") = some true),
  fun K => decide (PySem.W.subIn K (.ref (ac_MissingReading K)) (.ref (ac_UnknownGauge K)) = some false),
  fun K => decide ((Value.ref (ac_MissingReading K) == Value.ref (ac_UnknownGauge K)) = false),
  fun K => decide (PySem.W.findIn K (.ref (ac_NoLevel K)) "__class__" = some (some (.builtin "object.__class__"))),
  fun K => decide (PySem.W.mroIn K (ac_NoLevel K) (.type "object") = some true),
  fun K => decide (PySem.W.subIn K (.ref (ac_NoLevel K)) (.ref (ac_Apart K)) = some false),
  fun K => decide ((Value.ref (ac_NoLevel K) == Value.ref (ac_Apart K)) = false),
  fun K => decide (PySem.W.specialIn K (.ref (ac_CoarseGauge K)) "__getattribute__" = some (some (.builtin "type.__getattribute__"))),
  fun K => PySem.W.readsIn K (ac_CoarseGauge K) (.type "type"),
  fun K => cvB K (ac_CoarseGauge K) "__init__" (af_8 K)]
def ex_8 : List (PySem.W.Frag → Bool) := [
  fun K => decide (PySem.W.specialIn K (.ref (ac_Gauge K)) "__getattribute__" = some (some (.builtin "type.__getattribute__"))),
  fun K => PySem.W.readsIn K (ac_Gauge K) (.type "type"),
  fun K => cvB K (ac_Gauge K) "__init__" (af_7 K),
  fun K => decide (PySem.W.specialIn K (.ref (ac_LateGauge K)) "__getattribute__" = some (some (.builtin "type.__getattribute__"))),
  fun K => PySem.W.readsIn K (ac_LateGauge K) (.type "type"),
  fun K => cvB K (ac_LateGauge K) "__init__" (af_9 K),
  fun K => decide (PySem.W.nsIn K mainGlobals "BARRED" = some (some (.ref (ak_BARRED K)))),
  fun K => tsB K (ak_BARRED K) ["rank", "trim", "weigh", "together"],
  fun K => gsB K "LETTERS" "abcdefghijklmnopqrstuvwxyz",
  fun K => ciB K (ac_Gauge K) "LONGEST" 12,
  fun K => decide (PySem.W.nsIn K mainGlobals "abs" = some none),
  fun K => decide (PySem.W.nsIn K mainGlobals "all" = some none),
  fun K => decide (PySem.W.nsIn K mainGlobals "int" = some none),
  fun K => decide (PySem.W.nsIn K mainGlobals "isinstance" = some none),
  fun K => decide (PySem.W.nsIn K mainGlobals "len" = some none),
  fun K => decide (PySem.W.nsIn K mainGlobals "list" = some none),
  fun K => decide (PySem.W.nsIn K mainGlobals "max" = some none),
  fun K => decide (PySem.W.nsIn K mainGlobals "range" = some none),
  fun K => decide (PySem.W.nsIn K mainGlobals "sorted" = some none),
  fun K => decide (PySem.W.nsIn K mainGlobals "str" = some none),
  fun K => decide (PySem.W.nsIn K mainGlobals "super" = some none),
  fun K => decide (PySem.W.nsIn K mainGlobals "tuple" = some none)]
def exs : List (PySem.W.Frag → Bool) := ex_0 ++ ex_1 ++ ex_2 ++ ex_3 ++ ex_4 ++ ex_5 ++ ex_6 ++ ex_7 ++ ex_8
def fns : List FxS := [
  ⟨af_1, "_law_take", "_law_take", s_take, []⟩,
  ⟨af_2, "_law_box", "_law_box", s_box, []⟩,
  ⟨af_3, "_law_word", "_law_word", s_word, []⟩,
  ⟨af_4, "_law_words", "_law_words", s_words, []⟩,
  ⟨af_5, "is_gauge_name", "is_gauge_name", s_m_is_gauge_name, []⟩,
  ⟨af_6, "__init__", "BadGauge.__init__", s_BadGauge_init, []⟩,
  ⟨af_7, "__init__", "Gauge.__init__", s_Gauge_init, []⟩,
  ⟨af_8, "__init__", "CoarseGauge.__init__", s_CoarseGauge_init, []⟩,
  ⟨af_9, "__init__", "LateGauge.__init__", s_LateGauge_init, []⟩,
  ⟨af_10, "__init__", "LateCoarseGauge.__init__", s_LateCoarseGauge_init, []⟩,
  ⟨af_11, "_law_specs", "_law_specs", s_specs, []⟩,
  ⟨af_12, "_law_gauge", "_law_gauge", s_gauge, []⟩,
  ⟨af_13, "_law_gauges", "_law_gauges", s_gauges, []⟩,
  ⟨af_14, "_law_slacks", "_law_slacks", s_slacks, []⟩,
  ⟨af_15, "slack_below", "Gauge.slack_below", s_Gauge_slack_below, []⟩,
  ⟨af_16, "slack_above", "Gauge.slack_above", s_Gauge_slack_above, []⟩,
  ⟨af_17, "slack_above", "CoarseGauge.slack_above", s_CoarseGauge_slack_above, [("__class__" : Str)]⟩,
  ⟨af_18, "slack_below", "LateGauge.slack_below", s_LateGauge_slack_below, [("__class__" : Str)]⟩,
  ⟨af_19, "slack_above", "LateGauge.slack_above", s_LateGauge_slack_above, [("__class__" : Str)]⟩,
  ⟨af_20, "__init__", "DuplicateGauge.__init__", s_DuplicateGauge_init, []⟩,
  ⟨af_21, "__init__", "UnknownGauge.__init__", s_UnknownGauge_init, []⟩,
  ⟨af_22, "names", "Rack.names", s_Rack_names, []⟩,
  ⟨af_23, "__contains__", "Rack.__contains__", s_Rack_contains, []⟩,
  ⟨af_24, "gauge", "Rack.gauge", s_Rack_gauge, []⟩,
  ⟨af_25, "faults", "Rack.faults", s_Rack_faults, []⟩,
  ⟨af_26, "_refuse_unknown", "Rack._refuse_unknown", s_Rack_refuse_unknown, []⟩,
  ⟨af_27, "_faults_of", "_faults_of", s_m_faults_of, []⟩,
  ⟨af_28, "__init__", "Rack.__init__", s_Rack_init, []⟩,
  ⟨af_29, "of", "Rack.of", s_Rack_of, []⟩,
  ⟨af_30, "_without", "_without", s_m_without, []⟩,
  ⟨af_31, "_farthest", "_farthest", s_m_farthest, []⟩,
  ⟨af_32, "__init__", "MissingReading.__init__", s_MissingReading_init, []⟩,
  ⟨af_33, "__init__", "NoLevel.__init__", s_NoLevel_init, []⟩,
  ⟨af_34, "__init__", "BadLimit.__init__", s_BadLimit_init, []⟩,
  ⟨af_35, "_refuse_limit", "_refuse_limit", s_m_refuse_limit, []⟩,
  ⟨af_36, "__init__", "Keeper.__init__", s_Keeper_init, []⟩,
  ⟨af_37, "kept", "Keeper.kept", s_Keeper_kept, []⟩,
  ⟨af_38, "dropped", "Keeper.dropped", s_Keeper_dropped, []⟩,
  ⟨af_39, "take", "Keeper.take", s_Keeper_take, []⟩,
  ⟨af_40, "limit", "Keeper.limit", s_Keeper_limit, []⟩,
  ⟨af_41, "limit", "Keeper.limit", s_Keeper_limit__set, []⟩,
  ⟨af_42, "change", "Keeper.change", s_Keeper_change, []⟩,
  ⟨af_43, "_law_spot", "_law_spot", s_spot, []⟩,
  ⟨af_44, "_law_shown", "_law_shown", s_shown, []⟩,
  ⟨af_45, "_law_lie", "_law_lie", s_lie, []⟩,
  ⟨af_46, "_law_farthest", "_law_farthest", s_farthest, []⟩,
  ⟨af_47, "_law_tick", "_law_tick", s_tick, []⟩,
  ⟨af_48, "_law_few", "_law_few", s_few, []⟩,
  ⟨af_49, "_law_refused", "_law_refused", s_refused, []⟩,
  ⟨af_50, "_law_take_told", "_law_take_told", s_take_told, []⟩,
  ⟨af_51, "law", "law", s_law, []⟩]
theorem facts {l : PySem.W.OpenLaw} {w : World} {K : PySem.W.Frag} {h : Heap} {mg : Str → Option Value} {fa : Addr} (X : K.In h) (G : h.Ns mainGlobals mg) (hfa : mg "law" = some (.ref fa)) (xn_file : ((l.prog.main.file : Str) == (Str.ofString "/claim/cut.py")) = true) (xn_top : (l.prog.main.scope.names.lookup ("super" : Str)).isSome = false) (c : SaysB exs fns K) :
    ∃ fd : FuncData, (∀ (s : Shared) (v : Value), BindsTo s fd ⟨[v], []⟩ [("_law_script", v)]) ∧ ∀ base : Heap, K.In base → base.Ns mainGlobals mg → FnOk l.prog w K mg base CX0 10 fa fd ["_law_script"] (spLaw K) := by
  obtain ⟨oc1, od1, sl1, dc1, pm1, an1, ct1, l1⟩ := fx_ok (c.fnc 0)
  rw [show fxD K (af_1 K) = Value.none from of_decide_eq_true (c.fact 16)] at l1
  obtain ⟨oc2, od2, sl2, dc2, pm2, an2, ct2, l2⟩ := fx_ok (c.fnc 1)
  rw [show fxD K (af_2 K) = Value.none from of_decide_eq_true (c.fact 20)] at l2
  obtain ⟨oc3, od3, sl3, dc3, pm3, an3, ct3, l3⟩ := fx_ok (c.fnc 2)
  rw [show fxD K (af_3 K) = Value.none from of_decide_eq_true (c.fact 24)] at l3
  obtain ⟨oc4, od4, sl4, dc4, pm4, an4, ct4, l4⟩ := fx_ok (c.fnc 3)
  rw [show fxD K (af_4 K) = Value.none from of_decide_eq_true (c.fact 28)] at l4
  obtain ⟨oc5, od5, sl5, dc5, pm5, an5, ct5, l5⟩ := fx_ok (c.fnc 4)
  rw [show fxD K (af_5 K) = Value.none from of_decide_eq_true (c.fact 32)] at l5
  obtain ⟨oc6, od6, sl6, dc6, pm6, an6, ct6, l6⟩ := fx_ok (c.fnc 5)
  rw [show fxD K (af_6 K) = Value.none from of_decide_eq_true (c.fact 37)] at l6
  obtain ⟨oc7, od7, sl7, dc7, pm7, an7, ct7, l7⟩ := fx_ok (c.fnc 6)
  rw [show fxD K (af_7 K) = Value.none from of_decide_eq_true (c.fact 43)] at l7
  obtain ⟨oc8, od8, sl8, dc8, pm8, an8, ct8, l8⟩ := fx_ok (c.fnc 7)
  rw [show fxD K (af_8 K) = Value.none from of_decide_eq_true (c.fact 50)] at l8
  rw [show fxK K (af_8 K) = Value.none from of_decide_eq_true (c.fact 51)] at l8
  obtain ⟨oc9, od9, sl9, dc9, pm9, an9, ct9, l9⟩ := fx_ok (c.fnc 8)
  rw [show fxD K (af_9 K) = Value.none from of_decide_eq_true (c.fact 58)] at l9
  rw [show fxK K (af_9 K) = Value.none from of_decide_eq_true (c.fact 59)] at l9
  obtain ⟨oc10, od10, sl10, dc10, pm10, an10, ct10, l10⟩ := fx_ok (c.fnc 9)
  rw [show fxD K (af_10 K) = Value.none from of_decide_eq_true (c.fact 66)] at l10
  rw [show fxK K (af_10 K) = Value.none from of_decide_eq_true (c.fact 67)] at l10
  obtain ⟨oc11, od11, sl11, dc11, pm11, an11, ct11, l11⟩ := fx_ok (c.fnc 10)
  rw [show fxD K (af_11 K) = Value.none from of_decide_eq_true (c.fact 73)] at l11
  obtain ⟨oc12, od12, sl12, dc12, pm12, an12, ct12, l12⟩ := fx_ok (c.fnc 11)
  rw [show fxD K (af_12 K) = Value.none from of_decide_eq_true (c.fact 77)] at l12
  obtain ⟨oc13, od13, sl13, dc13, pm13, an13, ct13, l13⟩ := fx_ok (c.fnc 12)
  rw [show fxD K (af_13 K) = Value.none from of_decide_eq_true (c.fact 81)] at l13
  obtain ⟨oc14, od14, sl14, dc14, pm14, an14, ct14, l14⟩ := fx_ok (c.fnc 13)
  rw [show fxD K (af_14 K) = Value.none from of_decide_eq_true (c.fact 85)] at l14
  obtain ⟨oc15, od15, sl15, dc15, pm15, an15, ct15, l15⟩ := fx_ok (c.fnc 14)
  rw [show fxD K (af_15 K) = Value.none from of_decide_eq_true (c.fact 90)] at l15
  obtain ⟨oc16, od16, sl16, dc16, pm16, an16, ct16, l16⟩ := fx_ok (c.fnc 15)
  rw [show fxD K (af_16 K) = Value.none from of_decide_eq_true (c.fact 95)] at l16
  obtain ⟨oc17, od17, sl17, dc17, pm17, an17, ct17, l17⟩ := fx_sup (c.fnc 16)
  rw [show fxD K (af_17 K) = Value.none from of_decide_eq_true (c.fact 100)] at l17
  rw [show fxC K (af_17 K) = Value.ref (acda_17 K) from of_decide_eq_true (c.fact 101)] at l17
  obtain ⟨ccl17, cdd17, vs17, ccs17, tf17, sr17, xf17⟩ := cfB_ok (c.fact 104)
  obtain ⟨cl17, cld17, csl17, sc17⟩ := ceB_ok (c.fact 105)
  obtain ⟨cdD17, sd17⟩ := clB_ok (c.fact 106)
  obtain ⟨oc18, od18, sl18, dc18, pm18, an18, ct18, l18⟩ := fx_sup (c.fnc 17)
  rw [show fxD K (af_18 K) = Value.none from of_decide_eq_true (c.fact 116)] at l18
  rw [show fxC K (af_18 K) = Value.ref (acda_18 K) from of_decide_eq_true (c.fact 117)] at l18
  obtain ⟨ccl18, cdd18, vs18, ccs18, tf18, sr18, xf18⟩ := cfB_ok (c.fact 120)
  obtain ⟨cl18, cld18, csl18, sc18⟩ := ceB_ok (c.fact 121)
  obtain ⟨cdD18, sd18⟩ := clB_ok (c.fact 122)
  obtain ⟨oc19, od19, sl19, dc19, pm19, an19, ct19, l19⟩ := fx_sup (c.fnc 18)
  rw [show fxD K (af_19 K) = Value.none from of_decide_eq_true (c.fact 131)] at l19
  rw [show fxC K (af_19 K) = Value.ref (acda_19 K) from of_decide_eq_true (c.fact 132)] at l19
  obtain ⟨ccl19, cdd19, vs19, ccs19, tf19, sr19, xf19⟩ := cfB_ok (c.fact 135)
  obtain ⟨cl19, cld19, csl19, sc19⟩ := ceB_ok (c.fact 136)
  obtain ⟨cdD19, sd19⟩ := clB_ok (c.fact 137)
  obtain ⟨oc20, od20, sl20, dc20, pm20, an20, ct20, l20⟩ := fx_ok (c.fnc 19)
  rw [show fxD K (af_20 K) = Value.none from of_decide_eq_true (c.fact 146)] at l20
  obtain ⟨oc21, od21, sl21, dc21, pm21, an21, ct21, l21⟩ := fx_ok (c.fnc 20)
  rw [show fxD K (af_21 K) = Value.none from of_decide_eq_true (c.fact 152)] at l21
  obtain ⟨oc22, od22, sl22, dc22, pm22, an22, ct22, l22⟩ := fx_ok (c.fnc 21)
  rw [show fxD K (af_22 K) = Value.none from of_decide_eq_true (c.fact 158)] at l22
  obtain ⟨oc23, od23, sl23, dc23, pm23, an23, ct23, l23⟩ := fx_ok (c.fnc 22)
  rw [show fxD K (af_23 K) = Value.none from of_decide_eq_true (c.fact 163)] at l23
  obtain ⟨oc24, od24, sl24, dc24, pm24, an24, ct24, l24⟩ := fx_ok (c.fnc 23)
  rw [show fxD K (af_24 K) = Value.none from of_decide_eq_true (c.fact 168)] at l24
  obtain ⟨oc25, od25, sl25, dc25, pm25, an25, ct25, l25⟩ := fx_ok (c.fnc 24)
  rw [show fxD K (af_25 K) = Value.none from of_decide_eq_true (c.fact 173)] at l25
  obtain ⟨oc26, od26, sl26, dc26, pm26, an26, ct26, l26⟩ := fx_ok (c.fnc 25)
  rw [show fxD K (af_26 K) = Value.none from of_decide_eq_true (c.fact 178)] at l26
  obtain ⟨oc27, od27, sl27, dc27, pm27, an27, ct27, l27⟩ := fx_ok (c.fnc 26)
  rw [show fxD K (af_27 K) = Value.none from of_decide_eq_true (c.fact 182)] at l27
  obtain ⟨oc28, od28, sl28, dc28, pm28, an28, ct28, l28⟩ := fx_ok (c.fnc 27)
  rw [show fxD K (af_28 K) = Value.none from of_decide_eq_true (c.fact 187)] at l28
  rw [show fxK K (af_28 K) = Value.ref (akd_28 K) from of_decide_eq_true (c.fact 188)] at l28
  obtain ⟨oem28, nem28, sem28, em28⟩ := t0B_ok (c.fact 192)
  obtain ⟨rs29, mr29⟩ := recB_ok (c.fact 198)
  obtain ⟨oc29, od29, sl29, dc29, pm29, an29, ct29, l29⟩ := fx_ok (c.fnc 28)
  rw [show fxD K (af_29 K) = Value.ref (akd_29 K) from of_decide_eq_true (c.fact 200)] at l29
  obtain ⟨okd29, nkd29, skd29, kw29⟩ := t1B_ok (c.fact 203)
  obtain ⟨oem29, nem29, sem29, em29⟩ := t0B_ok (c.fact 204)
  obtain ⟨oc30, od30, sl30, dc30, pm30, an30, ct30, l30⟩ := fx_ok (c.fnc 29)
  rw [show fxD K (af_30 K) = Value.none from of_decide_eq_true (c.fact 206)] at l30
  obtain ⟨oc31, od31, sl31, dc31, pm31, an31, ct31, l31⟩ := fx_ok (c.fnc 30)
  rw [show fxD K (af_31 K) = Value.none from of_decide_eq_true (c.fact 210)] at l31
  obtain ⟨oc32, od32, sl32, dc32, pm32, an32, ct32, l32⟩ := fx_ok (c.fnc 31)
  rw [show fxD K (af_32 K) = Value.none from of_decide_eq_true (c.fact 215)] at l32
  obtain ⟨oc33, od33, sl33, dc33, pm33, an33, ct33, l33⟩ := fx_ok (c.fnc 32)
  rw [show fxD K (af_33 K) = Value.none from of_decide_eq_true (c.fact 221)] at l33
  obtain ⟨oc34, od34, sl34, dc34, pm34, an34, ct34, l34⟩ := fx_ok (c.fnc 33)
  rw [show fxD K (af_34 K) = Value.none from of_decide_eq_true (c.fact 227)] at l34
  obtain ⟨oc35, od35, sl35, dc35, pm35, an35, ct35, l35⟩ := fx_ok (c.fnc 34)
  rw [show fxD K (af_35 K) = Value.none from of_decide_eq_true (c.fact 232)] at l35
  obtain ⟨oc36, od36, sl36, dc36, pm36, an36, ct36, l36⟩ := fx_ok (c.fnc 35)
  rw [show fxD K (af_36 K) = Value.none from of_decide_eq_true (c.fact 237)] at l36
  obtain ⟨oc37, od37, sl37, dc37, pm37, an37, ct37, l37⟩ := fx_ok (c.fnc 36)
  rw [show fxD K (af_37 K) = Value.none from of_decide_eq_true (c.fact 244)] at l37
  obtain ⟨oc38, od38, sl38, dc38, pm38, an38, ct38, l38⟩ := fx_ok (c.fnc 37)
  rw [show fxD K (af_38 K) = Value.none from of_decide_eq_true (c.fact 249)] at l38
  obtain ⟨oc39, od39, sl39, dc39, pm39, an39, ct39, l39⟩ := fx_ok (c.fnc 38)
  rw [show fxD K (af_39 K) = Value.none from of_decide_eq_true (c.fact 254)] at l39
  obtain ⟨rs40, pr40⟩ := recB_ok (c.fact 260)
  obtain ⟨oc40, od40, sl40, dc40, pm40, an40, ct40, l40⟩ := fx_ok (c.fnc 39)
  rw [show fxD K (af_40 K) = Value.none from of_decide_eq_true (c.fact 261)] at l40
  obtain ⟨ra41, rs41, ps41⟩ := recB2_ok (c.fact 266)
  obtain ⟨oc41, od41, sl41, dc41, pm41, an41, ct41, l41⟩ := fx_ok (c.fnc 40)
  rw [show fxD K (af_41 K) = Value.none from of_decide_eq_true (c.fact 267)] at l41
  obtain ⟨oc42, od42, sl42, dc42, pm42, an42, ct42, l42⟩ := fx_ok (c.fnc 41)
  rw [show fxD K (af_42 K) = Value.none from of_decide_eq_true (c.fact 272)] at l42
  obtain ⟨oc43, od43, sl43, dc43, pm43, an43, ct43, l43⟩ := fx_ok (c.fnc 42)
  rw [show fxD K (af_43 K) = Value.none from of_decide_eq_true (c.fact 276)] at l43
  obtain ⟨oc44, od44, sl44, dc44, pm44, an44, ct44, l44⟩ := fx_ok (c.fnc 43)
  rw [show fxD K (af_44 K) = Value.none from of_decide_eq_true (c.fact 280)] at l44
  obtain ⟨oc45, od45, sl45, dc45, pm45, an45, ct45, l45⟩ := fx_ok (c.fnc 44)
  rw [show fxD K (af_45 K) = Value.none from of_decide_eq_true (c.fact 284)] at l45
  obtain ⟨oc46, od46, sl46, dc46, pm46, an46, ct46, l46⟩ := fx_ok (c.fnc 45)
  rw [show fxD K (af_46 K) = Value.none from of_decide_eq_true (c.fact 288)] at l46
  obtain ⟨oc47, od47, sl47, dc47, pm47, an47, ct47, l47⟩ := fx_ok (c.fnc 46)
  rw [show fxD K (af_47 K) = Value.none from of_decide_eq_true (c.fact 292)] at l47
  obtain ⟨oc48, od48, sl48, dc48, pm48, an48, ct48, l48⟩ := fx_ok (c.fnc 47)
  rw [show fxD K (af_48 K) = Value.none from of_decide_eq_true (c.fact 296)] at l48
  obtain ⟨oc49, od49, sl49, dc49, pm49, an49, ct49, l49⟩ := fx_ok (c.fnc 48)
  rw [show fxD K (af_49 K) = Value.none from of_decide_eq_true (c.fact 300)] at l49
  obtain ⟨oc50, od50, sl50, dc50, pm50, an50, ct50, l50⟩ := fx_ok (c.fnc 49)
  rw [show fxD K (af_50 K) = Value.none from of_decide_eq_true (c.fact 304)] at l50
  obtain ⟨oc51, od51, sl51, dc51, pm51, an51, ct51, l51⟩ := fx_ok (c.fnc 50)
  rw [show fxD K (af_51 K) = Value.none from of_decide_eq_true (c.fact 308)] at l51
  obtain ⟨_, _, _, _, _, _, _, _, _, _, _, _, _, _, xL_NoLevel⟩ := exB_ok (c.fact 314)
  obtain ⟨_, _, _, _, _, _, _, _, _, _, _, _, _, _, xL_Apart⟩ := exB_ok (c.fact 324)
  obtain ⟨_, _, _, _, _, _, _, _, _, _, _, _, _, _, xL_BadLiars⟩ := exB_ok (c.fact 336)
  obtain ⟨_, _, _, _, _, _, _, _, _, _, _, _, _, _, xL_BadGauge⟩ := exB_ok (c.fact 346)
  obtain ⟨_, _, _, _, _, _, _, _, _, _, _, _, _, _, xL_DuplicateGauge⟩ := exB_ok (c.fact 356)
  obtain ⟨_, _, _, _, _, _, _, _, _, _, _, _, _, _, xL_UnknownGauge⟩ := exB_ok (c.fact 366)
  obtain ⟨_, _, _, _, _, _, _, _, _, _, _, _, _, _, xL_MissingReading⟩ := exB_ok (c.fact 376)
  obtain ⟨_, _, _, _, _, _, _, _, _, _, _, _, _, _, xL_BadLimit⟩ := exB_ok (c.fact 387)
  obtain ⟨_, _, _, ts_BARRED, hts_BARRED, kt_BARRED⟩ := tsB_ok (c.fact 487)
  obtain ⟨t0_BARRED, t1_BARRED, t2_BARRED, t3_BARRED, rfl⟩ : ∃ t0 t1 t2 t3, ts_BARRED = [t0, t1, t2, t3] := match ts_BARRED, hts_BARRED with | [t0, t1, t2, t3], _ => ⟨t0, t1, t2, t3, rfl⟩
  obtain ⟨_, kg_LETTERS⟩ := gsB_ok (c.fact 488)
  obtain ⟨_, h_kc_Gauge_LONGEST⟩ := ciB_ok (c.fact 489)
  exact all_mk X G hfa (of_decide_eq_true (c.fact 0))
    (of_decide_eq_true (c.fact 1))
    (of_decide_eq_true (c.fact 2))
    (of_decide_eq_true (c.fact 3))
    (of_decide_eq_true (c.fact 4))
    (of_decide_eq_true (c.fact 5))
    (of_decide_eq_true (c.fact 6))
    (of_decide_eq_true (c.fact 7))
    (of_decide_eq_true (c.fact 8))
    (of_decide_eq_true (c.fact 9))
    (of_decide_eq_true (c.fact 10))
    (of_decide_eq_true (c.fact 11))
    (of_decide_eq_true (c.fact 12))
    (of_decide_eq_true (c.fact 13))
    (of_decide_eq_true (c.fact 14))
    (of_decide_eq_true (c.fact 15))
    l1
    (c.fact 17)
    (c.fact 18)
    (of_decide_eq_true (c.fact 19))
    l2
    (c.fact 21)
    (c.fact 22)
    (of_decide_eq_true (c.fact 23))
    l3
    (c.fact 25)
    (c.fact 26)
    (of_decide_eq_true (c.fact 27))
    l4
    (c.fact 29)
    (c.fact 30)
    (of_decide_eq_true (c.fact 31))
    l5
    (c.fact 33)
    (c.fact 34)
    (of_decide_eq_true (c.fact 35))
    (c.fact 36)
    l6
    (c.fact 38)
    (c.fact 39)
    (of_decide_eq_true (c.fact 40))
    (of_decide_eq_true (c.fact 41))
    (c.fact 42)
    l7
    (c.fact 44)
    (c.fact 45)
    (c.fact 46)
    (c.fact 47)
    (of_decide_eq_true (c.fact 48))
    (c.fact 49)
    l8
    (c.fact 52)
    (c.fact 53)
    (c.fact 54)
    (c.fact 55)
    (of_decide_eq_true (c.fact 56))
    (c.fact 57)
    l9
    (c.fact 60)
    (c.fact 61)
    (c.fact 62)
    (c.fact 63)
    (of_decide_eq_true (c.fact 64))
    (c.fact 65)
    l10
    (c.fact 68)
    (c.fact 69)
    (c.fact 70)
    (c.fact 71)
    (of_decide_eq_true (c.fact 72))
    l11
    (c.fact 74)
    (c.fact 75)
    (of_decide_eq_true (c.fact 76))
    l12
    (c.fact 78)
    (c.fact 79)
    (of_decide_eq_true (c.fact 80))
    l13
    (c.fact 82)
    (c.fact 83)
    (of_decide_eq_true (c.fact 84))
    l14
    (c.fact 86)
    (c.fact 87)
    (of_decide_eq_true (c.fact 88))
    (c.fact 89)
    l15
    (c.fact 91)
    (c.fact 92)
    (of_decide_eq_true (c.fact 93))
    (c.fact 94)
    l16
    (c.fact 96)
    (c.fact 97)
    (of_decide_eq_true (c.fact 98))
    (c.fact 99)
    l17
    (c.fact 102)
    (c.fact 103)
    sr17
    xf17
    sc17
    sd17
    (of_decide_eq_true (c.fact 107))
    (of_decide_eq_true (c.fact 108))
    (of_decide_eq_true (c.fact 109))
    (of_decide_eq_true (c.fact 110))
    (c.fact 111)
    (of_decide_eq_true (c.fact 112))
    (of_decide_eq_true (c.fact 113))
    (of_decide_eq_true (c.fact 114))
    (c.fact 115)
    l18
    (c.fact 118)
    (c.fact 119)
    sr18
    xf18
    sc18
    sd18
    (of_decide_eq_true (c.fact 123))
    (of_decide_eq_true (c.fact 124))
    (of_decide_eq_true (c.fact 125))
    (c.fact 126)
    (of_decide_eq_true (c.fact 127))
    (of_decide_eq_true (c.fact 128))
    (of_decide_eq_true (c.fact 129))
    (c.fact 130)
    l19
    (c.fact 133)
    (c.fact 134)
    sr19
    xf19
    sc19
    sd19
    (of_decide_eq_true (c.fact 138))
    (of_decide_eq_true (c.fact 139))
    (of_decide_eq_true (c.fact 140))
    (of_decide_eq_true (c.fact 141))
    (of_decide_eq_true (c.fact 142))
    (c.fact 143)
    (of_decide_eq_true (c.fact 144))
    (c.fact 145)
    l20
    (c.fact 147)
    (c.fact 148)
    (of_decide_eq_true (c.fact 149))
    (of_decide_eq_true (c.fact 150))
    (c.fact 151)
    l21
    (c.fact 153)
    (c.fact 154)
    (of_decide_eq_true (c.fact 155))
    (of_decide_eq_true (c.fact 156))
    (c.fact 157)
    l22
    (c.fact 159)
    (c.fact 160)
    (of_decide_eq_true (c.fact 161))
    (c.fact 162)
    l23
    (c.fact 164)
    (c.fact 165)
    (of_decide_eq_true (c.fact 166))
    (c.fact 167)
    l24
    (c.fact 169)
    (c.fact 170)
    (of_decide_eq_true (c.fact 171))
    (c.fact 172)
    l25
    (c.fact 174)
    (c.fact 175)
    (of_decide_eq_true (c.fact 176))
    (c.fact 177)
    l26
    (c.fact 179)
    (c.fact 180)
    (of_decide_eq_true (c.fact 181))
    l27
    (c.fact 183)
    (c.fact 184)
    (of_decide_eq_true (c.fact 185))
    (c.fact 186)
    l28
    (c.fact 189)
    (c.fact 190)
    (of_decide_eq_true (c.fact 191))
    em28
    (c.fact 193)
    (c.fact 194)
    (of_decide_eq_true (c.fact 195))
    (c.fact 196)
    (cgB_ok (c.fact 197))
    mr29
    (c.fact 199)
    l29
    (c.fact 201)
    (c.fact 202)
    kw29
    em29
    (of_decide_eq_true (c.fact 205))
    l30
    (c.fact 207)
    (c.fact 208)
    (of_decide_eq_true (c.fact 209))
    l31
    (c.fact 211)
    (c.fact 212)
    (of_decide_eq_true (c.fact 213))
    (c.fact 214)
    l32
    (c.fact 216)
    (c.fact 217)
    (of_decide_eq_true (c.fact 218))
    (of_decide_eq_true (c.fact 219))
    (c.fact 220)
    l33
    (c.fact 222)
    (c.fact 223)
    (of_decide_eq_true (c.fact 224))
    (of_decide_eq_true (c.fact 225))
    (c.fact 226)
    l34
    (c.fact 228)
    (c.fact 229)
    (of_decide_eq_true (c.fact 230))
    (of_decide_eq_true (c.fact 231))
    l35
    (c.fact 233)
    (c.fact 234)
    (of_decide_eq_true (c.fact 235))
    (c.fact 236)
    l36
    (c.fact 238)
    (c.fact 239)
    (c.fact 240)
    (c.fact 241)
    (of_decide_eq_true (c.fact 242))
    (c.fact 243)
    l37
    (c.fact 245)
    (c.fact 246)
    (of_decide_eq_true (c.fact 247))
    (c.fact 248)
    l38
    (c.fact 250)
    (c.fact 251)
    (of_decide_eq_true (c.fact 252))
    (c.fact 253)
    l39
    (c.fact 255)
    (c.fact 256)
    (of_decide_eq_true (c.fact 257))
    (of_decide_eq_true (c.fact 258))
    (of_decide_eq_true (c.fact 259))
    pr40
    l40
    (c.fact 262)
    (c.fact 263)
    (of_decide_eq_true (c.fact 264))
    (of_decide_eq_true (c.fact 265))
    ps41
    l41
    (c.fact 268)
    (c.fact 269)
    (of_decide_eq_true (c.fact 270))
    (c.fact 271)
    l42
    (c.fact 273)
    (c.fact 274)
    (of_decide_eq_true (c.fact 275))
    l43
    (c.fact 277)
    (c.fact 278)
    (of_decide_eq_true (c.fact 279))
    l44
    (c.fact 281)
    (c.fact 282)
    (of_decide_eq_true (c.fact 283))
    l45
    (c.fact 285)
    (c.fact 286)
    (of_decide_eq_true (c.fact 287))
    l46
    (c.fact 289)
    (c.fact 290)
    (of_decide_eq_true (c.fact 291))
    l47
    (c.fact 293)
    (c.fact 294)
    (of_decide_eq_true (c.fact 295))
    l48
    (c.fact 297)
    (c.fact 298)
    (of_decide_eq_true (c.fact 299))
    l49
    (c.fact 301)
    (c.fact 302)
    (of_decide_eq_true (c.fact 303))
    l50
    (c.fact 305)
    (c.fact 306)
    (of_decide_eq_true (c.fact 307))
    l51
    (c.fact 309)
    (c.fact 310)
    (of_decide_eq_true (c.fact 311))
    (c.fact 312)
    (cbB_ok (c.fact 313))
    xL_NoLevel
    (of_decide_eq_true (c.fact 315))
    (of_decide_eq_true (c.fact 316))
    (of_decide_eq_true (c.fact 317))
    (c.fact 318)
    (of_decide_eq_true (c.fact 319))
    (of_decide_eq_true (c.fact 320))
    (c.fact 321)
    (c.fact 322)
    (of_decide_eq_true (c.fact 323))
    xL_Apart
    (of_decide_eq_true (c.fact 325))
    (of_decide_eq_true (c.fact 326))
    (of_decide_eq_true (c.fact 327))
    (c.fact 328)
    (of_decide_eq_true (c.fact 329))
    (of_decide_eq_true (c.fact 330))
    (c.fact 331)
    (c.fact 332)
    (of_decide_eq_true (c.fact 333))
    (of_decide_eq_true (c.fact 334))
    (of_decide_eq_true (c.fact 335))
    xL_BadLiars
    (of_decide_eq_true (c.fact 337))
    (of_decide_eq_true (c.fact 338))
    (of_decide_eq_true (c.fact 339))
    (c.fact 340)
    (of_decide_eq_true (c.fact 341))
    (of_decide_eq_true (c.fact 342))
    (c.fact 343)
    (c.fact 344)
    (of_decide_eq_true (c.fact 345))
    xL_BadGauge
    (of_decide_eq_true (c.fact 347))
    (of_decide_eq_true (c.fact 348))
    (of_decide_eq_true (c.fact 349))
    (c.fact 350)
    (of_decide_eq_true (c.fact 351))
    (of_decide_eq_true (c.fact 352))
    (c.fact 353)
    (c.fact 354)
    (of_decide_eq_true (c.fact 355))
    xL_DuplicateGauge
    (of_decide_eq_true (c.fact 357))
    (of_decide_eq_true (c.fact 358))
    (of_decide_eq_true (c.fact 359))
    (c.fact 360)
    (of_decide_eq_true (c.fact 361))
    (of_decide_eq_true (c.fact 362))
    (c.fact 363)
    (c.fact 364)
    (of_decide_eq_true (c.fact 365))
    xL_UnknownGauge
    (of_decide_eq_true (c.fact 367))
    (of_decide_eq_true (c.fact 368))
    (of_decide_eq_true (c.fact 369))
    (c.fact 370)
    (of_decide_eq_true (c.fact 371))
    (of_decide_eq_true (c.fact 372))
    (c.fact 373)
    (c.fact 374)
    (of_decide_eq_true (c.fact 375))
    xL_MissingReading
    (of_decide_eq_true (c.fact 377))
    (of_decide_eq_true (c.fact 378))
    (of_decide_eq_true (c.fact 379))
    (c.fact 380)
    (of_decide_eq_true (c.fact 381))
    (of_decide_eq_true (c.fact 382))
    (c.fact 383)
    (c.fact 384)
    (of_decide_eq_true (c.fact 385))
    (of_decide_eq_true (c.fact 386))
    xL_BadLimit
    (of_decide_eq_true (c.fact 388))
    (of_decide_eq_true (c.fact 389))
    (of_decide_eq_true (c.fact 390))
    (c.fact 391)
    (of_decide_eq_true (c.fact 392))
    (of_decide_eq_true (c.fact 393))
    (c.fact 394)
    (c.fact 395)
    (of_decide_eq_true (c.fact 396))
    (of_decide_eq_true (c.fact 397))
    (c.fact 398)
    (c.fact 399)
    (c.fact 400)
    (of_decide_eq_true (c.fact 401))
    (of_decide_eq_true (c.fact 402))
    (of_decide_eq_true (c.fact 403))
    (of_decide_eq_true (c.fact 404))
    (of_decide_eq_true (c.fact 405))
    (of_decide_eq_true (c.fact 406))
    (of_decide_eq_true (c.fact 407))
    (of_decide_eq_true (c.fact 408))
    (c.fact 409)
    (c.fact 410)
    (c.fact 411)
    (of_decide_eq_true (c.fact 412))
    (of_decide_eq_true (c.fact 413))
    (of_decide_eq_true (c.fact 414))
    (of_decide_eq_true (c.fact 415))
    (of_decide_eq_true (c.fact 416))
    (of_decide_eq_true (c.fact 417))
    (of_decide_eq_true (c.fact 418))
    (of_decide_eq_true (c.fact 419))
    (c.fact 420)
    (c.fact 421)
    (c.fact 422)
    (of_decide_eq_true (c.fact 423))
    (of_decide_eq_true (c.fact 424))
    (of_decide_eq_true (c.fact 425))
    (of_decide_eq_true (c.fact 426))
    (of_decide_eq_true (c.fact 427))
    (of_decide_eq_true (c.fact 428))
    (of_decide_eq_true (c.fact 429))
    (of_decide_eq_true (c.fact 430))
    (c.fact 431)
    (c.fact 432)
    (c.fact 433)
    (of_decide_eq_true (c.fact 434))
    (of_decide_eq_true (c.fact 435))
    (of_decide_eq_true (c.fact 436))
    (of_decide_eq_true (c.fact 437))
    (of_decide_eq_true (c.fact 438))
    (of_decide_eq_true (c.fact 439))
    (of_decide_eq_true (c.fact 440))
    (of_decide_eq_true (c.fact 441))
    (c.fact 442)
    (c.fact 443)
    (c.fact 444)
    (of_decide_eq_true (c.fact 445))
    (of_decide_eq_true (c.fact 446))
    (of_decide_eq_true (c.fact 447))
    (of_decide_eq_true (c.fact 448))
    (of_decide_eq_true (c.fact 449))
    (of_decide_eq_true (c.fact 450))
    (of_decide_eq_true (c.fact 451))
    (of_decide_eq_true (c.fact 452))
    (c.fact 453)
    (c.fact 454)
    (c.fact 455)
    (of_decide_eq_true (c.fact 456))
    (of_decide_eq_true (c.fact 457))
    (of_decide_eq_true (c.fact 458))
    (of_decide_eq_true (c.fact 459))
    (of_decide_eq_true (c.fact 460))
    (of_decide_eq_true (c.fact 461))
    (of_decide_eq_true (c.fact 462))
    (of_decide_eq_true (c.fact 463))
    (of_decide_eq_true (c.fact 464))
    (of_decide_eq_true (c.fact 465))
    (c.fact 466)
    (of_decide_eq_true (c.fact 467))
    (of_decide_eq_true (c.fact 468))
    (of_decide_eq_true (c.fact 469))
    (of_decide_eq_true (c.fact 470))
    (of_decide_eq_true (c.fact 471))
    (of_decide_eq_true (c.fact 472))
    (of_decide_eq_true (c.fact 473))
    (of_decide_eq_true (c.fact 474))
    (of_decide_eq_true (c.fact 475))
    (of_decide_eq_true (c.fact 476))
    (of_decide_eq_true (c.fact 477))
    (c.fact 478)
    (cvB_ok (c.fact 479))
    (of_decide_eq_true (c.fact 480))
    (c.fact 481)
    (cvB_ok (c.fact 482))
    (of_decide_eq_true (c.fact 483))
    (c.fact 484)
    (cvB_ok (c.fact 485))
    (of_decide_eq_true (c.fact 486))
    kt_BARRED
    kg_LETTERS
    h_kc_Gauge_LONGEST
    (of_decide_eq_true (c.fact 490))
    (of_decide_eq_true (c.fact 491))
    (of_decide_eq_true (c.fact 492))
    (of_decide_eq_true (c.fact 493))
    (of_decide_eq_true (c.fact 494))
    (of_decide_eq_true (c.fact 495))
    (of_decide_eq_true (c.fact 496))
    (of_decide_eq_true (c.fact 497))
    (of_decide_eq_true (c.fact 498))
    (of_decide_eq_true (c.fact 499))
    (of_decide_eq_true (c.fact 500))
    (of_decide_eq_true (c.fact 501))
    xn_file
    xn_top
def loose_0 : List PySem.Str := ["_wall", "__name__", "GaugeError", "BadStretch", "NoLevel", "Apart", "BadLiars", "BadGauge", "DuplicateGauge", "UnknownGauge", "MissingReading", "BadLimit", "_refuse_limit", "_without", "_farthest", "Keeper", "Stretch", "LETTERS", "BARRED", "is_gauge_name", "Gauge", "CoarseGauge", "LateGauge", "LateCoarseGauge", "_faults_of", "Rack", "_law_box", "_law_take", "_law_word", "_law_words"]
def loose_1 : List PySem.Str := ["_law_specs", "_law_slacks", "_law_gauge", "_law_gauges", "_law_farthest", "_law_tick", "_law_few", "_law_spot", "_law_shown", "_law_lie", "_law_refused", "_law_take_told"]
def looseN : List PySem.Str := loose_0 ++ loose_1
abbrev RR : PySem.W.OpenRow := PySem.W.OpenLaw.row PySem.Challenge.rw_gaugemiss_k51_keeper_limits
abbrev hkB : PySem.W.Hook := hookB 6 exs fns
def obR (s : PySem.W.SharedT) : Bool × List FxV := obsBG 6 exs fns (HandSHeadRun.getT s)
theorem obR_eq (s : PySem.W.SharedT) : obR s = hkB.obs s.abs := obsBG_eq (HandSHeadRun.getT_eq s)
set_option maxHeartbeats 0 in
theorem runA (w : World) (os : OsState) : (HandSHeadRun.endF (HandSHeadRun.stepQ (HandSHeadRun.denQ HandSHeadRun.tabQ) RR.prog w) 40000 RR.prog w os).map (fun s => (HandSHeadRun.looksF RR.prog (PySem.W.boot_heap w.params) s.abs, HandSHeadRun.seenQ (PySem.W.view RR.prog [46]) looseN (importedModules RR.prog.main.body) (fun s => PySem.W.xlAt (PySem.W.view RR.prog [46]) [] s && PySem.W.recOk RR.toRowW.records s) s.abs)) = some (true, PySem.W.openGood (PySem.W.view RR.prog [46]) looseN) := by
  kernel_rfl
set_option maxHeartbeats 0 in
theorem runB (w : World) (os : OsState) : (HandSHeadRun.endF (HandSHeadRun.stepQ (HandSHeadRun.denQ HandSHeadRun.tabQ) RR.prog w) 40000 RR.prog w os).map obR = some (valB fns) := by
  kernel_rfl
theorem runR (w : World) : HandSHeadRun.RunEq RR (PySem.W.view RR.prog [46]) hkB obR 40000 looseN w := by
  intro os
  obtain ⟨s, hs, ha⟩ := Option.map_eq_some_iff.mp (runA w os)
  obtain ⟨s2, hs2, hb⟩ := Option.map_eq_some_iff.mp (runB w os)
  rw [hs] at hs2
  cases hs2
  rw [hs]
  exact some3 (Prod.mk.inj ha).1 (Prod.mk.inj ha).2 hb
end Lw
open PySem PySem.W PyProof.Rows
set_option maxRecDepth 100000 in
set_option maxHeartbeats 0 in
theorem PySem.Challenge.cw_gaugemiss_k51_keeper_limits_holds : PySem.Challenge.rw_gaugemiss_k51_keeper_limits.Holds := by
  w_on; o_law
  refine HandSHeadRun.head_any (r := OpenLaw.row PySem.Challenge.rw_gaugemiss_k51_keeper_limits) (q := view (OpenLaw.row PySem.Challenge.rw_gaugemiss_k51_keeper_limits).prog [46]) (H := Lw.hkB) (ob := Lw.obR) (M := 40000) (loose := Lw.looseN) (d := HandSHeadRun.topDef (OpenLaw.row PySem.Challenge.rw_gaugemiss_k51_keeper_limits).prog 46) (kwd := []) Lw.obR_eq
    (by kernel_rfl) (fun s => by kernel_rfl) Lw.runR (by kernel_rfl) (by kernel_rfl) (by kernel_rfl) (by rfl) (by first | assumption | decide +kernel) (by decide +kernel) ⟨rfl, rfl, rfl, rfl, rfl, by decide +kernel⟩ ?hw ?hc
  case hw => w_witness2
  case hc =>
    refine L2.walk_ofE (l := PySem.Challenge.rw_gaugemiss_k51_keeper_limits) (n := 63) (k := 10) (x := "_law_script") (CX := L2.CX0) rfl (by decide) (by kernel_rfl) ⟨rfl, by decide, by decide⟩ ?F (fun _ _ _ _ z => z)
    intro w mg fa h Y G hmg0
    obtain ⟨K, KX, c⟩ := Y
    have hmg : mg ("law" : PySem.Str) = some (.ref fa) := by
      have e : (HandSHeadRun.topDef (OpenLaw.row PySem.Challenge.rw_gaugemiss_k51_keeper_limits).prog 46).name = ("law" : PySem.Str) := by kernel_rfl
      rw [← e]
      exact hmg0
    obtain ⟨fd, hb, hF⟩ := Lw.facts (l := PySem.Challenge.rw_gaugemiss_k51_keeper_limits) (w := w) KX G hmg (by first | rfl | decide +kernel) (by first | rfl | decide +kernel) c
    exact ⟨K, fd, Lw.spLaw K, KX, hb, fun H a ns hl _ hS => ⟨a, ns, rfl, hS, hl, fun _ => rfl⟩, hF⟩
